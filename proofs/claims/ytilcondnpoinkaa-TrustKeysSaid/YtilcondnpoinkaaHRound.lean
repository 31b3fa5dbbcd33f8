/- The contract of the reference's round. -/
import Derived.Test.YtilcondnpoinkaaHRor
namespace Go.Proofs.Ytilcondnpoinkaa
open Go.RowKit

/-- A word's cell. -/
abbrev wv (x : Nat) : Value := .int .u32 (x : Int)
/-- Eight words in a row. -/
def Eight (W : World) (p off : Nat) (a b c d e f g h : Nat) : Prop :=
  W.cell? ⟨p, off, none⟩ = some (wv a) ∧ W.cell? ⟨p, off + 1, none⟩ = some (wv b) ∧ W.cell? ⟨p, off + 2, none⟩ = some (wv c) ∧ W.cell? ⟨p, off + 3, none⟩ = some (wv d) ∧
  W.cell? ⟨p, off + 4, none⟩ = some (wv e) ∧ W.cell? ⟨p, off + 5, none⟩ = some (wv f) ∧ W.cell? ⟨p, off + 6, none⟩ = some (wv g) ∧ W.cell? ⟨p, off + 7, none⟩ = some (wv h)
theorem Eight.drewN {W : World} {p off a b c d e f g h : Nat} (H : Eight W p off a b c d e f g h) (n : Nat) : Eight (W.drewN n) p off a b c d e f g h := H
theorem drewN_name (w : World) (n : Nat) : ∃ w1, w.drewN n = w1 := ⟨_, rfl⟩

theorem bigE_int (e : Nat) (h : e < 4294967296) : bits .xor .u32 (bits .xor .u32 ((ror e 6 : Nat) : Int) ((ror e 11 : Nat) : Int)) ((ror e 25 : Nat) : Int) = ((bigE e : Nat) : Int) := by
  rw [u32_xor_nat _ _ (ror_lt _ _ h) (ror_lt _ _ h), u32_xor_nat _ _ (xor_lt (ror_lt _ _ h) (ror_lt _ _ h)) (ror_lt _ _ h)]
  rfl
theorem bigA_int (e : Nat) (h : e < 4294967296) : bits .xor .u32 (bits .xor .u32 ((ror e 2 : Nat) : Int) ((ror e 13 : Nat) : Int)) ((ror e 22 : Nat) : Int) = ((bigA e : Nat) : Int) := by
  rw [u32_xor_nat _ _ (ror_lt _ _ h) (ror_lt _ _ h), u32_xor_nat _ _ (xor_lt (ror_lt _ _ h) (ror_lt _ _ h)) (ror_lt _ _ h)]
  rfl
theorem choice_int (e f g : Nat) (he : e < 4294967296) (hf : f < 4294967296) (hg : g < 4294967296) : bits .xor .u32 (bits .and .u32 (e : Int) (f : Int)) (bits .and .u32 (4294967295 - (e : Int)) (g : Int)) = ((choice e f g : Nat) : Int) := by
  have e1 : (4294967295 : Int) - (e : Int) = ((4294967295 - e : Nat) : Int) := by omega
  rw [e1, u32_and_nat _ _ he hf, u32_and_nat _ _ (by omega) hg, u32_xor_nat _ _ (and_lt he) (and_lt (by omega))]
  rfl
theorem major_int (a b c : Nat) (ha : a < 4294967296) (hb : b < 4294967296) (hc : c < 4294967296) : bits .xor .u32 (bits .xor .u32 (bits .and .u32 (a : Int) (b : Int)) (bits .and .u32 (a : Int) (c : Int))) (bits .and .u32 (b : Int) (c : Int)) = ((major a b c : Nat) : Int) := by
  rw [u32_and_nat _ _ ha hb, u32_and_nat _ _ ha hc, u32_and_nat _ _ hb hc, u32_xor_nat _ _ (and_lt ha) (and_lt ha), u32_xor_nat _ _ (xor_lt (and_lt ha) (and_lt ha)) (and_lt hb)]
  rfl

set_option maxRecDepth 100000 in
set_option maxHeartbeats 1000000 in
theorem round_any (p off cap a b c d e f g h k x : Nat) (w : World) (HE : Hid (Eight w p off a b c d e f g h))
    (ha : a < 4294967296) (hb : b < 4294967296) (hc : c < 4294967296) (he : e < 4294967296) (hf : f < 4294967296) (hg : g < 4294967296) :
    Calls Try.prog 54 #[.slice (some ⟨p, off, none⟩) 8 cap, .int .u32 (k : Int), .int .u32 (x : Int)] w fun e' w' => ∃ q, e' = .returned (.slice (some ⟨q, 0, none⟩) 8 8) ∧ w.heap.size ≤ q ∧ Blk w' q 66 ((roundL a b c d e f g h k x).map wv).toArray ∧ Below w.heap.size w w' := by
  have hE := bigE_int e he
  have hA := bigA_int a ha
  have hC := choice_int e f g he hf hg
  have hJ := major_int a b c ha hb hc
  have hR : roundL a b c d e f g h k x = [((h + bigE e + choice e f g + k + x) % 4294967296 + (bigA a + major a b c) % 4294967296) % 4294967296, a, b, c, (d + (h + bigE e + choice e f g + k + x) % 4294967296) % 4294967296, e, f, g] := rfl
  obtain ⟨E, hE'⟩ : ∃ E, bigE e = E := ⟨_, rfl⟩
  obtain ⟨A, hA'⟩ : ∃ A, bigA a = A := ⟨_, rfl⟩
  obtain ⟨C, hC'⟩ : ∃ C, choice e f g = C := ⟨_, rfl⟩
  obtain ⟨J, hJ'⟩ : ∃ J, major a b c = J := ⟨_, rfl⟩
  rw [hE'] at hE hR
  rw [hA'] at hA hR
  rw [hC'] at hC hR
  rw [hJ'] at hJ hR
  obtain ⟨T, hT'⟩ : ∃ T, (h + E + C + k + x) % 4294967296 = T := ⟨_, rfl⟩
  obtain ⟨U, hU'⟩ : ∃ U, (A + J) % 4294967296 = U := ⟨_, rfl⟩
  have hT1 : (((h : Int) + E + C + k) % 4294967296 + x) % 4294967296 = (T : Int) := by omega
  have hT2 : ((h : Int) + E + C + k + x) % 4294967296 = (T : Int) := by omega
  have hU1 : ((A : Int) + J) % 4294967296 = (U : Int) := by omega
  rw [hT', hU'] at hR
  have HR := Lib.hid hR
  have HT1 := Lib.hid hT1
  have HT2 := Lib.hid hT2
  have HU1 := Lib.hid hU1
  have HC := Lib.hid hC
  have HJ := Lib.hid hJ
  have HA := Lib.hid hA
  clear hR hE' hA' hC' hJ' hT' hU' hT1 hT2 hU1 hC hJ hA
  go_enter Try.func54, Try.ntmps54
  go_wp2_with fail
  have r6 : Hid (∀ m, Calls Try.prog 67 #[.int .u32 (e : Int), .int .u32 6] (w.drewN m) fun e' w' => e' = .returned (.int .u32 (ror e 6 : Nat)) ∧ ∃ q, w' = w.drewN q) := fun m => ror_at e 6 6 w he rfl (by omega) (by omega) m
  have r11 : Hid (∀ m, Calls Try.prog 67 #[.int .u32 (e : Int), .int .u32 11] (w.drewN m) fun e' w' => e' = .returned (.int .u32 (ror e 11 : Nat)) ∧ ∃ q, w' = w.drewN q) := fun m => ror_at e 11 11 w he rfl (by omega) (by omega) m
  have r25 : Hid (∀ m, Calls Try.prog 67 #[.int .u32 (e : Int), .int .u32 25] (w.drewN m) fun e' w' => e' = .returned (.int .u32 (ror e 25 : Nat)) ∧ ∃ q, w' = w.drewN q) := fun m => ror_at e 25 25 w he rfl (by omega) (by omega) m
  obtain ⟨c0, c1, c2, c3, c4, c5, c6, c7⟩ := HE.out
  go_quiet ((go_at_call 67; with_reducible first | exact r6.out _ | exact r11.out _ | exact r25.out _))
  clear c0 c1 c2 c3 c4 c5 c6 c7
  obtain ⟨w1, hw1⟩ := drewN_name w nq
  have HE1 : Hid (Eight w1 p off a b c d e f g h) := by rw [← hw1]; exact HE.out.drewN _
  have hb1 : Below w.heap.size w w1 := by rw [← hw1]; exact ⟨rfl, rfl, rfl, Nat.le_refl _, fun _ _ => rfl⟩
  rw [hw1]
  clear hw1 r6 r11 r25
  go_wp2_with fail
  obtain ⟨c0, c1, c2, c3, c4, c5, c6, c7⟩ := HE1.out
  go_quiet (fail)
  clear c0 c1 c2 c3 c4 c5 c6 c7
  obtain ⟨w2, hw2⟩ := drewN_name w1 nq
  have HE2 : Hid (Eight w2 p off a b c d e f g h) := by rw [← hw2]; exact HE1.out.drewN _
  have hb2 : Below w.heap.size w w2 := by rw [← hw2]; exact ⟨hb1.os, hb1.tape, hb1.output, hb1.size, hb1.block⟩
  rw [hw2]
  clear hw2 hb1
  obtain ⟨c0, c1, c2, c3, c4, c5, c6, c7⟩ := HE2.out
  have hC := HC.out
  have hT1 := HT1.out
  have hT2 := HT2.out
  go_wp2_with fail
  have r2 : Hid (∀ m, Calls Try.prog 67 #[.int .u32 (a : Int), .int .u32 2] (w2.drewN m) fun e' w' => e' = .returned (.int .u32 (ror a 2 : Nat)) ∧ ∃ q, w' = w2.drewN q) := fun m => ror_at a 2 2 w2 ha rfl (by omega) (by omega) m
  have r13 : Hid (∀ m, Calls Try.prog 67 #[.int .u32 (a : Int), .int .u32 13] (w2.drewN m) fun e' w' => e' = .returned (.int .u32 (ror a 13 : Nat)) ∧ ∃ q, w' = w2.drewN q) := fun m => ror_at a 13 13 w2 ha rfl (by omega) (by omega) m
  have r22 : Hid (∀ m, Calls Try.prog 67 #[.int .u32 (a : Int), .int .u32 22] (w2.drewN m) fun e' w' => e' = .returned (.int .u32 (ror a 22 : Nat)) ∧ ∃ q, w' = w2.drewN q) := fun m => ror_at a 22 22 w2 ha rfl (by omega) (by omega) m
  clear hC hT1 hT2
  have hA := HA.out
  have hJ := HJ.out
  have hU1 := HU1.out
  go_quiet ((go_at_call 67; with_reducible first | exact r2.out _ | exact r13.out _ | exact r22.out _))
  clear hA hJ r2 r13 r22
  clear c0 c1 c2 c3 c4 c5 c6 c7
  obtain ⟨w3, hw3⟩ := drewN_name w2 nq
  have HE3 : Hid (Eight w3 p off a b c d e f g h) := by rw [← hw3]; exact HE2.out.drewN _
  have hb3 : Below w.heap.size w w3 := by rw [← hw3]; exact ⟨hb2.os, hb2.tape, hb2.output, hb2.size, hb2.block⟩
  rw [hw3]
  clear hw3 hb2
  obtain ⟨c0, c1, c2, c3, c4, c5, c6, c7⟩ := HE3.out
  obtain ⟨V, hV⟩ : ∃ V, (T + U) % 4294967296 = V := ⟨_, rfl⟩
  obtain ⟨X, hX⟩ : ∃ X, (d + T) % 4294967296 = X := ⟨_, rfl⟩
  have hw1 : IntKind.u32.wrap ((T : Int) + (U : Int)) = (V : Int) := by rw [IntKind.wrap_u32]; omega
  have hw2 : IntKind.u32.wrap ((d : Int) + (T : Int)) = (X : Int) := by rw [IntKind.wrap_u32]; omega
  have hT1 := HT1.out
  have hT2 := HT2.out
  have hR := HR.out
  rw [hV, hX] at hR
  have HR2 := Lib.hid hR
  have HE4 : Hid (Eight (w3.drew.alloc (.cells #[wv V, wv a, wv b, wv c, wv X, wv e, wv f, wv g] 66)) p off a b c d e f g h) := by
    have hal : ∀ (o : Nat) (v : Value), w3.cell? ⟨p, o, none⟩ = some v → (w3.drew.alloc (.cells #[wv V, wv a, wv b, wv c, wv X, wv e, wv f, wv g] 66)).cell? ⟨p, o, none⟩ = some v := fun o v hv => (World.cell?_alloc_lt _ _ _ (World.block_lt_of_cell? _ _ hv)).trans hv
    exact ⟨hal _ _ c0, hal _ _ c1, hal _ _ c2, hal _ _ c3, hal _ _ c4, hal _ _ c5, hal _ _ c6, hal _ _ c7⟩
  clear hV hX hR
  go_wp2_with fail
  go_region_held3 (fun W => W.cell? ⟨p, off, none⟩ = some (wv a) ∧ W.cell? ⟨p, off + 1, none⟩ = some (wv b) ∧ W.cell? ⟨p, off + 2, none⟩ = some (wv c) ∧ W.cell? ⟨p, off + 3, none⟩ = some (wv d) ∧ W.cell? ⟨p, off + 4, none⟩ = some (wv e) ∧ W.cell? ⟨p, off + 5, none⟩ = some (wv f) ∧ W.cell? ⟨p, off + 6, none⟩ = some (wv g)) (first | exact ⟨c0, c1, c2, c3, c4, c5, c6⟩ | exact ⟨HE4.out.1, HE4.out.2.1, HE4.out.2.2.1, HE4.out.2.2.2.1, HE4.out.2.2.2.2.1, HE4.out.2.2.2.2.2.1, HE4.out.2.2.2.2.2.2.1⟩ | assumption | go_keep) (fail)
  go_wp2_with fail
  go_ret
  rw [HR2.out]
  exact ⟨_, rfl, hb3.size, (Blk.new w3 _ _).drew, (hb3.alloc hb3.size _).drew⟩
end Go.Proofs.Ytilcondnpoinkaa
