/- Texts of this seat, one behind the other: HMath, HRor, HRound, HMix, HKeys, HMixR, HPadR, HSumR. -/
import Derived.Below
import Derived.Outline
import Derived.Laws.BitsAllLaws
import Derived.Deep.AppendLies
import Derived.Maps.AppendAt
import Derived.RangeFuncBox
import Derived.Deep.Onto
import Derived.Lib.SlBytesRow
import Derived.Test.YtjonhenllhnibaaGreatDoorQ01
/- SHA-256 in plain numbers and lists: nothing of the program. -/
namespace Go.Proofs.YtjonhenllhnibaaGreatDoor

/-- A word turned right. -/
def ror (w n : Nat) : Nat := (w / 2 ^ n) ||| (w * 2 ^ (32 - n) % 4294967296)
def W32 (x : Nat) : Prop := x < 4294967296
def Words (L : List Nat) : Prop := ∀ x ∈ L, x < 4294967296

theorem ror_lt (w n : Nat) (h : w < 4294967296) : ror w n < 4294967296 := by
  have h1 : w / 2 ^ n < 2 ^ 32 := Nat.lt_of_le_of_lt (Nat.div_le_self _ _) (by omega)
  have h2 : w * 2 ^ (32 - n) % 4294967296 < 2 ^ 32 := Nat.mod_lt _ (by omega)
  exact Nat.or_lt_two_pow h1 h2
theorem xor_lt {a b : Nat} (h : a < 4294967296) (k : b < 4294967296) : a ^^^ b < 4294967296 := Nat.xor_lt_two_pow (n := 32) h k
theorem and_lt {a b : Nat} (h : a < 4294967296) : a &&& b < 4294967296 := Nat.lt_of_le_of_lt Nat.and_le_left h

def bigE (e : Nat) : Nat := ror e 6 ^^^ ror e 11 ^^^ ror e 25
def bigA (a : Nat) : Nat := ror a 2 ^^^ ror a 13 ^^^ ror a 22
def choice (e f g : Nat) : Nat := (e &&& f) ^^^ ((4294967295 - e) &&& g)
def major (a b c : Nat) : Nat := (a &&& b) ^^^ (a &&& c) ^^^ (b &&& c)
/-- T1 and T2. -/
def tOne (e f g h k w : Nat) : Nat := (h + bigE e + choice e f g + k + w) % 4294967296
def tTwo (a b c : Nat) : Nat := (bigA a + major a b c) % 4294967296
/-- A state behind one round. -/
def roundL (a b c d e f g h k w : Nat) : List Nat := [(tOne e f g h k w + tTwo a b c) % 4294967296, a, b, c, (d + tOne e f g h k w) % 4294967296, e, f, g]
theorem bigE_lt (e : Nat) (h : e < 4294967296) : bigE e < 4294967296 := xor_lt (xor_lt (ror_lt _ _ h) (ror_lt _ _ h)) (ror_lt _ _ h)
theorem bigA_lt (e : Nat) (h : e < 4294967296) : bigA e < 4294967296 := xor_lt (xor_lt (ror_lt _ _ h) (ror_lt _ _ h)) (ror_lt _ _ h)
theorem choice_lt {e f g : Nat} (h : e < 4294967296) : choice e f g < 4294967296 := xor_lt (and_lt h) (and_lt (by omega))
theorem major_lt {a b c : Nat} (h : a < 4294967296) (k : b < 4294967296) : major a b c < 4294967296 := xor_lt (xor_lt (and_lt h) (and_lt h)) (and_lt k)

/-- A word of a row, by its place. -/
def wn (L : List Nat) (j : Nat) : Nat := L.getD j 0
def sigO (x : Nat) : Nat := ror x 7 ^^^ ror x 18 ^^^ (x / 8)
def sigI (x : Nat) : Nat := ror x 17 ^^^ ror x 19 ^^^ (x / 1024)
/-- A block's word, by its place. -/
def wordAt (b : List UInt8) (t : Nat) : Nat := (b.getD (4 * t) 0).toNat * 16777216 + (b.getD (4 * t + 1) 0).toNat * 65536 + (b.getD (4 * t + 2) 0).toNat * 256 + (b.getD (4 * t + 3) 0).toNat
/-- The word behind the words so far. -/
def hnextW (W : List Nat) (t : Nat) : Nat := (sigI (wn W (t - 2)) + wn W (t - 7) + sigO (wn W (t - 15)) + wn W (t - 16)) % 4294967296
/-- A block's first words. -/
def sched (b : List UInt8) : Nat → List Nat
  | 0 => []
  | t + 1 => sched b t ++ [if t < 16 then wordAt b t else hnextW (sched b t) t]
theorem sched_len (b : List UInt8) (t : Nat) : (sched b t).length = t := by
  induction t with
  | zero => rfl
  | succ t ih => rw [sched, List.length_append, ih]; rfl
theorem wordAt_lt (b : List UInt8) (t : Nat) : wordAt b t < 4294967296 := by
  unfold wordAt
  have h0 := (b.getD (4 * t) 0).toNat_lt
  have h1 := (b.getD (4 * t + 1) 0).toNat_lt
  have h2 := (b.getD (4 * t + 2) 0).toNat_lt
  have h3 := (b.getD (4 * t + 3) 0).toNat_lt
  omega
theorem sched_lt (b : List UInt8) (t : Nat) : ∀ x ∈ sched b t, x < 4294967296 := by
  induction t with
  | zero => intro x hx; cases hx
  | succ t ih =>
    intro x hx
    rw [sched] at hx
    rcases List.mem_append.1 hx with h | h
    · exact ih x h
    · rw [List.mem_singleton.1 h]
      split
      · exact wordAt_lt b t
      · exact Nat.mod_lt _ (by omega)
theorem wn_lt {L : List Nat} (h : ∀ x ∈ L, x < 4294967296) (j : Nat) : wn L j < 4294967296 := by
  unfold wn
  rw [List.getD]
  cases hj : L[j]? with
  | none => simp
  | some x => exact h x (List.mem_of_getElem? hj)
theorem sigO_lt (x : Nat) (h : x < 4294967296) : sigO x < 4294967296 := xor_lt (xor_lt (ror_lt _ _ h) (ror_lt _ _ h)) (Nat.lt_of_le_of_lt (Nat.div_le_self _ _) h)
theorem sigI_lt (x : Nat) (h : x < 4294967296) : sigI x < 4294967296 := xor_lt (xor_lt (ror_lt _ _ h) (ror_lt _ _ h)) (Nat.lt_of_le_of_lt (Nat.div_le_self _ _) h)
end Go.Proofs.YtjonhenllhnibaaGreatDoor
/- The contract of the reference's ror. -/
namespace Go.Proofs.YtjonhenllhnibaaGreatDoor
open Go.RowKit

theorem ror_int (x n : Nat) (hx : x < 4294967296) : bits .or .u32 ((x : Int) / 2 ^ n) ((x : Int) * 2 ^ (32 - n) % 4294967296) = ((ror x n : Nat) : Int) := by
  have e1 : (x : Int) / 2 ^ n = ((x / 2 ^ n : Nat) : Int) := by simp
  have e2 : (x : Int) * 2 ^ (32 - n) % 4294967296 = ((x * 2 ^ (32 - n) % 4294967296 : Nat) : Int) := by simp
  rw [e1, e2, u32_or_nat _ _ (Nat.lt_of_le_of_lt (Nat.div_le_self _ _) hx) (Nat.mod_lt _ (by omega))]
  rfl

set_option maxRecDepth 100000 in
set_option maxHeartbeats 1000000 in
theorem ror_any (x n : Nat) (w : World) (hx : (x : Int) < 4294967296) (h1 : 1 ≤ n) (h2 : n ≤ 31) :
    Calls Tryz.prog 101 #[.int .u32 (x : Int), .int .u32 (n : Int)] w fun e w' => e = .returned (.int .u32 (ror x n : Nat)) ∧ w = w' := by
  go_enter Tryz.func101, Tryz.ntmps101
  go_wp2
  go_ret
  refine ⟨?_, rfl⟩
  rw [← ror_int x n (by omega)]
  rfl
/-- The same at a literal, as a quiet call. -/
theorem ror_at (x n : Nat) (k : Int) (w : World) (hx : x < 4294967296) (hk : (n : Int) = k) (h1 : 1 ≤ n) (h2 : n ≤ 31) (m : Nat) :
    Calls Tryz.prog 101 #[.int .u32 (x : Int), .int .u32 k] (w.drewN m) fun e w' => e = .returned (.int .u32 (ror x n : Nat)) ∧ ∃ q, w' = w.drewN q := by
  subst hk
  exact (ror_any x n _ (by omega) h1 h2).mono fun _ _ ⟨he, hm⟩ => ⟨he, m, hm.symm⟩
end Go.Proofs.YtjonhenllhnibaaGreatDoor
/- The contract of the reference's round. -/
namespace Go.Proofs.YtjonhenllhnibaaGreatDoor
open Go.RowKit

/-- A word's cell. -/
abbrev wv (x : Nat) : Value := .int .u32 (x : Int)
/-- Eight words in a row. -/
def Eight (W : World) (p off : Nat) (a b c d e f g h : Nat) : Prop :=
  W.cell? ⟨p, off, none⟩ = some (wv a) ∧ W.cell? ⟨p, off + 1, none⟩ = some (wv b) ∧ W.cell? ⟨p, off + 2, none⟩ = some (wv c) ∧ W.cell? ⟨p, off + 3, none⟩ = some (wv d) ∧
  W.cell? ⟨p, off + 4, none⟩ = some (wv e) ∧ W.cell? ⟨p, off + 5, none⟩ = some (wv f) ∧ W.cell? ⟨p, off + 6, none⟩ = some (wv g) ∧ W.cell? ⟨p, off + 7, none⟩ = some (wv h)
theorem Eight.drewN {W : World} {p off a b c d e f g h : Nat} (H : Eight W p off a b c d e f g h) (n : Nat) : Eight (W.drewN n) p off a b c d e f g h := H
theorem bigE_int (e : Nat) (h : e < 4294967296) : bits .xor .u32 (bits .xor .u32 ((ror e 6 : Nat) : Int) ((ror e 11 : Nat) : Int)) ((ror e 25 : Nat) : Int) = ((bigE e : Nat) : Int) := by
  rw [u32_xor_nat _ _ (ror_lt _ _ h) (ror_lt _ _ h), u32_xor_nat _ _ (xor_lt (ror_lt _ _ h) (ror_lt _ _ h)) (ror_lt _ _ h)]
  rfl
theorem bigA_int (e : Nat) (h : e < 4294967296) : bits .xor .u32 (bits .xor .u32 ((ror e 2 : Nat) : Int) ((ror e 13 : Nat) : Int)) ((ror e 22 : Nat) : Int) = ((bigA e : Nat) : Int) := by
  rw [u32_xor_nat _ _ (ror_lt _ _ h) (ror_lt _ _ h), u32_xor_nat _ _ (xor_lt (ror_lt _ _ h) (ror_lt _ _ h)) (ror_lt _ _ h)]
  rfl
theorem choice_int (e f g : Nat) (he : e < 4294967296) (hf : f < 4294967296) (hg : g < 4294967296) : bits .xor .u32 (bits .and .u32 (e : Int) (f : Int)) (bits .and .u32 (4294967295 - (e : Int)) (g : Int)) = ((choice e f g : Nat) : Int) := by
  have e1 : (4294967295 : Int) - (e : Int) = ((4294967295 - e : Nat) : Int) := by omega
  rw [e1, u32_and_nat _ _ he hf, u32_and_nat _ _ (by omega) hg, u32_xor_nat _ _ (and_lt he) (and_lt (by omega))]
  rfl
theorem major_int (a b c : Nat) (ha : a < 4294967296) (hb : b < 4294967296) (hc : c < 4294967296) : bits .xor .u32 (bits .xor .u32 (bits .and .u32 (a : Int) (b : Int)) (bits .and .u32 (a : Int) (c : Int))) (bits .and .u32 (b : Int) (c : Int)) = ((major a b c : Nat) : Int) := by
  rw [u32_and_nat _ _ ha hb, u32_and_nat _ _ ha hc, u32_and_nat _ _ hb hc, u32_xor_nat _ _ (and_lt ha) (and_lt ha), u32_xor_nat _ _ (xor_lt (and_lt ha) (and_lt ha)) (and_lt hb)]
  rfl

set_option maxRecDepth 100000 in
set_option maxHeartbeats 1000000 in
theorem round_any (p off cap a b c d e f g h k x : Nat) (w : World) (HE : Hid (Eight w p off a b c d e f g h))
    (ha : a < 4294967296) (hb : b < 4294967296) (hc : c < 4294967296) (he : e < 4294967296) (hf : f < 4294967296) (hg : g < 4294967296) :
    Calls Tryz.prog 76 #[.slice (some ⟨p, off, none⟩) 8 cap, .int .u32 (k : Int), .int .u32 (x : Int)] w fun e' w' => ∃ q, e' = .returned (.slice (some ⟨q, 0, none⟩) 8 8) ∧ w.heap.size ≤ q ∧ Blk w' q 79 ((roundL a b c d e f g h k x).map wv).toArray ∧ Below w.heap.size w w' := by
  have hE := bigE_int e he
  have hA := bigA_int a ha
  have hC := choice_int e f g he hf hg
  have hJ := major_int a b c ha hb hc
  have hR : roundL a b c d e f g h k x = [((h + bigE e + choice e f g + k + x) % 4294967296 + (bigA a + major a b c) % 4294967296) % 4294967296, a, b, c, (d + (h + bigE e + choice e f g + k + x) % 4294967296) % 4294967296, e, f, g] := rfl
  obtain ⟨E, hE'⟩ : ∃ E, bigE e = E := ⟨_, rfl⟩
  obtain ⟨A, hA'⟩ : ∃ A, bigA a = A := ⟨_, rfl⟩
  obtain ⟨C, hC'⟩ : ∃ C, choice e f g = C := ⟨_, rfl⟩
  obtain ⟨J, hJ'⟩ : ∃ J, major a b c = J := ⟨_, rfl⟩
  rw [hE'] at hE hR
  rw [hA'] at hA hR
  rw [hC'] at hC hR
  rw [hJ'] at hJ hR
  obtain ⟨T, hT'⟩ : ∃ T, (h + E + C + k + x) % 4294967296 = T := ⟨_, rfl⟩
  obtain ⟨U, hU'⟩ : ∃ U, (A + J) % 4294967296 = U := ⟨_, rfl⟩
  have hT1 : (((h : Int) + E + C + k) % 4294967296 + x) % 4294967296 = (T : Int) := by omega
  have hT2 : ((h : Int) + E + C + k + x) % 4294967296 = (T : Int) := by omega
  have hU1 : ((A : Int) + J) % 4294967296 = (U : Int) := by omega
  rw [hT', hU'] at hR
  have HR := Lib.hid hR
  have HT1 := Lib.hid hT1
  have HT2 := Lib.hid hT2
  have HU1 := Lib.hid hU1
  have HC := Lib.hid hC
  have HJ := Lib.hid hJ
  have HA := Lib.hid hA
  clear hR hE' hA' hC' hJ' hT' hU' hT1 hT2 hU1 hC hJ hA
  go_enter Tryz.func76, Tryz.ntmps76
  go_wp2_with fail
  have r6 : Hid (∀ m, Calls Tryz.prog 101 #[.int .u32 (e : Int), .int .u32 6] (w.drewN m) fun e' w' => e' = .returned (.int .u32 (ror e 6 : Nat)) ∧ ∃ q, w' = w.drewN q) := fun m => ror_at e 6 6 w he rfl (by omega) (by omega) m
  have r11 : Hid (∀ m, Calls Tryz.prog 101 #[.int .u32 (e : Int), .int .u32 11] (w.drewN m) fun e' w' => e' = .returned (.int .u32 (ror e 11 : Nat)) ∧ ∃ q, w' = w.drewN q) := fun m => ror_at e 11 11 w he rfl (by omega) (by omega) m
  have r25 : Hid (∀ m, Calls Tryz.prog 101 #[.int .u32 (e : Int), .int .u32 25] (w.drewN m) fun e' w' => e' = .returned (.int .u32 (ror e 25 : Nat)) ∧ ∃ q, w' = w.drewN q) := fun m => ror_at e 25 25 w he rfl (by omega) (by omega) m
  obtain ⟨c0, c1, c2, c3, c4, c5, c6, c7⟩ := HE.out
  go_quiet ((go_at_call 101; with_reducible first | exact r6.out _ | exact r11.out _ | exact r25.out _))
  clear c0 c1 c2 c3 c4 c5 c6 c7
  obtain ⟨w1, hw1⟩ := drewN_name w nq
  have HE1 : Hid (Eight w1 p off a b c d e f g h) := by rw [← hw1]; exact HE.out.drewN _
  have hb1 : Below w.heap.size w w1 := by rw [← hw1]; exact ⟨rfl, rfl, rfl, Nat.le_refl _, fun _ _ => rfl⟩
  rw [hw1]
  clear hw1 r6 r11 r25
  go_wp2_with fail
  obtain ⟨c0, c1, c2, c3, c4, c5, c6, c7⟩ := HE1.out
  go_quiet (fail)
  clear c0 c1 c2 c3 c4 c5 c6 c7
  obtain ⟨w2, hw2⟩ := drewN_name w1 nq
  have HE2 : Hid (Eight w2 p off a b c d e f g h) := by rw [← hw2]; exact HE1.out.drewN _
  have hb2 : Below w.heap.size w w2 := by rw [← hw2]; exact ⟨hb1.os, hb1.tape, hb1.output, hb1.size, hb1.block⟩
  rw [hw2]
  clear hw2 hb1
  obtain ⟨c0, c1, c2, c3, c4, c5, c6, c7⟩ := HE2.out
  have hC := HC.out
  have hT1 := HT1.out
  have hT2 := HT2.out
  go_wp2_with fail
  have r2 : Hid (∀ m, Calls Tryz.prog 101 #[.int .u32 (a : Int), .int .u32 2] (w2.drewN m) fun e' w' => e' = .returned (.int .u32 (ror a 2 : Nat)) ∧ ∃ q, w' = w2.drewN q) := fun m => ror_at a 2 2 w2 ha rfl (by omega) (by omega) m
  have r13 : Hid (∀ m, Calls Tryz.prog 101 #[.int .u32 (a : Int), .int .u32 13] (w2.drewN m) fun e' w' => e' = .returned (.int .u32 (ror a 13 : Nat)) ∧ ∃ q, w' = w2.drewN q) := fun m => ror_at a 13 13 w2 ha rfl (by omega) (by omega) m
  have r22 : Hid (∀ m, Calls Tryz.prog 101 #[.int .u32 (a : Int), .int .u32 22] (w2.drewN m) fun e' w' => e' = .returned (.int .u32 (ror a 22 : Nat)) ∧ ∃ q, w' = w2.drewN q) := fun m => ror_at a 22 22 w2 ha rfl (by omega) (by omega) m
  clear hC hT1 hT2
  have hA := HA.out
  have hJ := HJ.out
  have hU1 := HU1.out
  go_quiet ((go_at_call 101; with_reducible first | exact r2.out _ | exact r13.out _ | exact r22.out _))
  clear hA hJ r2 r13 r22
  clear c0 c1 c2 c3 c4 c5 c6 c7
  obtain ⟨w3, hw3⟩ := drewN_name w2 nq
  have HE3 : Hid (Eight w3 p off a b c d e f g h) := by rw [← hw3]; exact HE2.out.drewN _
  have hb3 : Below w.heap.size w w3 := by rw [← hw3]; exact ⟨hb2.os, hb2.tape, hb2.output, hb2.size, hb2.block⟩
  rw [hw3]
  clear hw3 hb2
  obtain ⟨c0, c1, c2, c3, c4, c5, c6, c7⟩ := HE3.out
  obtain ⟨V, hV⟩ : ∃ V, (T + U) % 4294967296 = V := ⟨_, rfl⟩
  obtain ⟨X, hX⟩ : ∃ X, (d + T) % 4294967296 = X := ⟨_, rfl⟩
  have hw1 : IntKind.u32.wrap ((T : Int) + (U : Int)) = (V : Int) := by rw [IntKind.wrap_u32]; omega
  have hw2 : IntKind.u32.wrap ((d : Int) + (T : Int)) = (X : Int) := by rw [IntKind.wrap_u32]; omega
  have hT1 := HT1.out
  have hT2 := HT2.out
  have hR := HR.out
  rw [hV, hX] at hR
  have HR2 := Lib.hid hR
  have HE4 : Hid (Eight (w3.drew.alloc (.cells #[wv V, wv a, wv b, wv c, wv X, wv e, wv f, wv g] 79)) p off a b c d e f g h) := by
    have hal : ∀ (o : Nat) (v : Value), w3.cell? ⟨p, o, none⟩ = some v → (w3.drew.alloc (.cells #[wv V, wv a, wv b, wv c, wv X, wv e, wv f, wv g] 79)).cell? ⟨p, o, none⟩ = some v := fun o v hv => (World.cell?_alloc_lt _ _ _ (World.block_lt_of_cell? _ _ hv)).trans hv
    exact ⟨hal _ _ c0, hal _ _ c1, hal _ _ c2, hal _ _ c3, hal _ _ c4, hal _ _ c5, hal _ _ c6, hal _ _ c7⟩
  clear hV hX hR
  go_wp2_with fail
  go_region_held3 (fun W => W.cell? ⟨p, off, none⟩ = some (wv a) ∧ W.cell? ⟨p, off + 1, none⟩ = some (wv b) ∧ W.cell? ⟨p, off + 2, none⟩ = some (wv c) ∧ W.cell? ⟨p, off + 3, none⟩ = some (wv d) ∧ W.cell? ⟨p, off + 4, none⟩ = some (wv e) ∧ W.cell? ⟨p, off + 5, none⟩ = some (wv f) ∧ W.cell? ⟨p, off + 6, none⟩ = some (wv g)) (first | exact ⟨c0, c1, c2, c3, c4, c5, c6⟩ | exact ⟨HE4.out.1, HE4.out.2.1, HE4.out.2.2.1, HE4.out.2.2.2.1, HE4.out.2.2.2.2.1, HE4.out.2.2.2.2.2.1, HE4.out.2.2.2.2.2.2.1⟩ | assumption | go_keep) (fail)
  go_wp2_with fail
  go_ret
  rw [HR2.out]
  exact ⟨_, rfl, hb3.size, (Blk.new w3 _ _).drew, (hb3.alloc hb3.size _).drew⟩
end Go.Proofs.YtjonhenllhnibaaGreatDoor
/- SHA-256's state, keys and mixing, in plain numbers and lists: nothing of the program. -/
namespace Go.Proofs.YtjonhenllhnibaaGreatDoor

/-- The first state. -/
def startL : List Nat := [1779033703, 3144134277, 1013904242, 2773480762, 1359893119, 2600822924, 528734635, 1541459225]
/-- The keys. -/
def hkeysL : List Nat := [1116352408, 1899447441, 3049323471, 3921009573, 961987163, 1508970993, 2453635748, 2870763221, 3624381080, 310598401, 607225278, 1426881987, 1925078388, 2162078206, 2614888103, 3248222580, 3835390401, 4022224774, 264347078, 604807628, 770255983, 1249150122, 1555081692, 1996064986, 2554220882, 2821834349, 2952996808, 3210313671, 3336571891, 3584528711, 113926993, 338241895, 666307205, 773529912, 1294757372, 1396182291, 1695183700, 1986661051, 2177026350, 2456956037, 2730485921, 2820302411, 3259730800, 3345764771, 3516065817, 3600352804, 4094571909, 275423344, 430227734, 506948616, 659060556, 883997877, 958139571, 1322822218, 1537002063, 1747873779, 1955562222, 2024104815, 2227730452, 2361852424, 2428436474, 2756734187, 3204031479, 3329325298]
/-- A state behind one round, by its words. -/
def stepL (s : List Nat) (k x : Nat) : List Nat := roundL (wn s 0) (wn s 1) (wn s 2) (wn s 3) (wn s 4) (wn s 5) (wn s 6) (wn s 7) k x
/-- A state behind so many rounds. -/
def mixN (s ks ws : List Nat) : Nat → List Nat
  | 0 => s
  | t + 1 => stepL (mixN s ks ws t) (wn ks t) (wn ws t)
/-- A state mixed with a block. -/
def mixL (s : List Nat) (b : List UInt8) : List Nat := (List.range 8).map fun i => (wn (mixN s hkeysL (sched b 64) 64) i + wn s i) % 4294967296
theorem stepL_len (s : List Nat) (k x : Nat) : (stepL s k x).length = 8 := rfl
theorem mixN_len (s ks ws : List Nat) (h : s.length = 8) (t : Nat) : (mixN s ks ws t).length = 8 := by
  cases t with
  | zero => exact h
  | succ t => rfl
theorem step_lt (s : List Nat) (h : ∀ x ∈ s, x < 4294967296) (k x : Nat) : ∀ y ∈ stepL s k x, y < 4294967296 := by
  intro y hy
  simp only [stepL, roundL, List.mem_cons, List.not_mem_nil, or_false] at hy
  rcases hy with rfl | rfl | rfl | rfl | rfl | rfl | rfl | rfl
  · exact Nat.mod_lt _ (by omega)
  · exact wn_lt h _
  · exact wn_lt h _
  · exact wn_lt h _
  · exact Nat.mod_lt _ (by omega)
  · exact wn_lt h _
  · exact wn_lt h _
  · exact wn_lt h _
theorem mixN_lt (s ks ws : List Nat) (h : ∀ x ∈ s, x < 4294967296) (t : Nat) : ∀ y ∈ mixN s ks ws t, y < 4294967296 := by
  induction t with
  | zero => exact h
  | succ t ih => exact step_lt _ ih _ _
theorem keys_len : hkeysL.length = 64 := rfl
theorem mixL_len (s : List Nat) (b : List UInt8) : (mixL s b).length = 8 := by simp [mixL]
theorem mixL_lt (s : List Nat) (b : List UInt8) : ∀ x ∈ mixL s b, x < 4294967296 := by
  intro x hx
  simp only [mixL, List.mem_map] at hx
  obtain ⟨i, _, rfl⟩ := hx
  exact Nat.mod_lt _ (by omega)
/-- Any eight words. -/
theorem eight_of (L : List Nat) (h : L.length = 8) : ∃ a b c d e f g i, L = [a, b, c, d, e, f, g, i] := by
  match L, h with
  | [a, b, c, d, e, f, g, i], _ => exact ⟨a, b, c, d, e, f, g, i, rfl⟩
end Go.Proofs.YtjonhenllhnibaaGreatDoor
/- The contracts of the reference's Start and Keys. -/
namespace Go.Proofs.YtjonhenllhnibaaGreatDoor
open Go.RowKit

/-- A row of words: where it lies, if it has any. -/
def WR (w : World) (A : Option Addr) (L : List Nat) : Prop :=
  ∀ j, j < L.length → ∃ g off, A = some ⟨g, off, none⟩ ∧ w.cell? ⟨g, off + j, none⟩ = some (wv (wn L j))
theorem WR.later {w w' : World} {A : Option Addr} {L : List Nat} (h : WR w A L) (hb : Below w.heap.size w w') : WR w' A L := fun j hj => by
  obtain ⟨g, off, e, h0⟩ := h j hj
  exact ⟨g, off, e, cell_later hb h0⟩
theorem wn_get (L : List Nat) (j : Nat) (h : j < L.length) : wn L j = L[j] := by simp [wn, List.getD, h]
theorem WR.blk {w : World} {g : Nat} {t : TypeId} {L : List Nat} (h : Blk w g t (L.map wv).toArray) : WR w (some ⟨g, 0, none⟩) L := fun j hj => ⟨g, 0, rfl, by
  rw [Nat.zero_add, h.cell j, wn_get L j hj]
  simp [hj]⟩

set_option maxRecDepth 100000 in
set_option maxHeartbeats 1000000 in
theorem rkeys_any (w : World) : Calls Tryz.prog 74 #[] w fun e w' => ∃ g, e = .returned (.slice (some ⟨g, 0, none⟩) 64 64) ∧ w.heap.size ≤ g ∧ Blk w' g 79 (hkeysL.map wv).toArray ∧ Below w.heap.size w w' := by
  go_enter Tryz.func74, Tryz.ntmps74
  go_wp2
  go_ret
  exact ⟨_, rfl, Nat.le_refl _, Blk.new w _ _, ba (Below.refl _ _) _⟩
set_option maxRecDepth 100000 in
set_option maxHeartbeats 1000000 in
theorem rstart_any (w : World) : Calls Tryz.prog 48 #[] w fun e w' => ∃ g, e = .returned (.slice (some ⟨g, 0, none⟩) 8 8) ∧ w.heap.size ≤ g ∧ Blk w' g 79 (startL.map wv).toArray ∧ Below w.heap.size w w' := by
  go_enter Tryz.func48, Tryz.ntmps48
  go_wp2
  go_ret
  exact ⟨_, rfl, Nat.le_refl _, Blk.new w _ _, ba (Below.refl _ _) _⟩

end Go.Proofs.YtjonhenllhnibaaGreatDoor
/- The contract of the reference's Mix, if words is as it should be. -/
namespace Go.Proofs.YtjonhenllhnibaaGreatDoor
open Go.RowKit

/-- What words is to tell. -/
def RWords : Prop := ∀ (b : List UInt8) (w : World), b.length = 64 → Calls Tryz.prog 75 #[.string ⟨b.toArray⟩] w fun e w' => ∃ g c, e = .returned (.slice (some ⟨g, 0, none⟩) 64 c) ∧ (∀ j, j < 64 → w'.cell? ⟨g, j, none⟩ = some (wv (wn (sched b 64) j))) ∧ Below w.heap.size w w'
/-- Eight words, by their places. -/
def RS (w : World) (g off : Nat) (L : List Nat) : Prop := ∀ j, j < 8 → w.cell? ⟨g, off + j, none⟩ = some (wv (wn L j))
theorem RS.later {w w' : World} {g off : Nat} {L : List Nat} (h : RS w g off L) (hb : Below w.heap.size w w') : RS w' g off L := fun j hj => cell_later hb (h j hj)
theorem RS.eight {w : World} {g off : Nat} {L : List Nat} (h : RS w g off L) : Eight w g off (wn L 0) (wn L 1) (wn L 2) (wn L 3) (wn L 4) (wn L 5) (wn L 6) (wn L 7) :=
  ⟨h 0 (by omega), h 1 (by omega), h 2 (by omega), h 3 (by omega), h 4 (by omega), h 5 (by omega), h 6 (by omega), h 7 (by omega)⟩
theorem RS.blk {w : World} {g : Nat} {t : TypeId} {L : List Nat} (h : Blk w g t (L.map wv).toArray) (hl : L.length = 8) : RS w g 0 L := fun j hj => by
  rw [Nat.zero_add, h.cell j, wn_get L j (by omega)]
  have : j < L.length := by omega
  simp [this]
theorem hinfoW : (Tryz.prog.info? 79).map (fun i => (i.zero, i.size, i.bytes)) = some (some (.int .u32 0), 1, 4) := by kernel_rfl
theorem mixL_take (s : List Nat) (b : List UInt8) (k : Nat) (h : k < 8) : (mixL s b).take (k + 1) = (mixL s b).take k ++ [(wn (mixN s hkeysL (sched b 64) 64) k + wn s k) % 4294967296] := by
  rw [← List.take_append_getElem (by rw [mixL_len]; exact h)]
  congr 2
  simp [mixL]

set_option maxRecDepth 100000 in
set_option maxHeartbeats 4000000 in
theorem rmix_any (HW : RWords) (g0 off0 cap : Nat) (s : List Nat) (b : List UInt8) (w : World) (hR : RS w g0 off0 s) (hs : ∀ x ∈ s, x < 4294967296) (hb : b.length = 64) :
    Calls Tryz.prog 50 #[.slice (some ⟨g0, off0, none⟩) 8 cap, .string ⟨b.toArray⟩] w fun e w' => ∃ v, e = .returned v ∧ w'.ownsRow w.heap.size 79 1 v 8 ((mixL s b).map wv) ∧ Below w.heap.size w w' := by
  obtain ⟨ti, hi0, hz0, hz1, hz2⟩ := info_parts hinfoW
  have HRS := Lib.hid hR
  have HS := Lib.hid hs
  have HB := Lib.hid hb
  have HWW : Hid RWords := HW
  clear hR hs hb HW
  go_enter Tryz.func50, Tryz.ntmps50
  go_wp2_with fail
  refine (rkeys_any _).mono ?_
  rintro e w1 ⟨gk, rfl, _, hK, hb1⟩
  go_wp2_with fail
  refine (HWW.out b _ HB.out).mono ?_
  rintro e w2 ⟨gw, cw, rfl, hWc, hb2⟩
  have hB2 := bt hb1 hb2
  have HK := Lib.hid (hK.below hb2)
  have HWC := Lib.hid hWc
  have hgw : gw < w2.heap.size := World.block_lt_of_cell? _ _ (hWc 0 (by omega))
  clear hK hWc hb1 hb2
  obtain ⟨ws, hws⟩ : ∃ ws, sched b 64 = ws := ⟨_, rfl⟩
  have HML := Lib.hid (mixL_take s b)
  rw [hws] at HWC HML
  clear hws
  go_wp2_with fail
  go_loopw [5, 17] (fun nv iv wr => ∃ k g off c : Nat, k ≤ 64 ∧ iv = .int .i64 k ∧ nv = .slice (some ⟨g, off, none⟩) 8 c ∧ RS wr g off (mixN s hkeysL ws k) ∧ Below w2.heap.size w2 wr) (fun _ i _ => 64 - (intOf i).toNat)
  case atStart => exact ⟨0, g0, off0, cap, Nat.zero_le _, rfl, rfl, HRS.out.later hB2, Below.refl _ _⟩
  case round =>
    obtain ⟨k, g, off, c, hk, rfl, rfl, hrs, hbr⟩ := hrel
    by_cases hlt : k < 64
    · have cw1 : wr.cell? ⟨gw, k, none⟩ = some (wv (wn ws k)) := (hbr.cell (p := ⟨gw, k, none⟩) hgw).trans (HWC.out k hlt)
      have ck1 : wr.cell? ⟨gk, k, none⟩ = some (wv (wn hkeysL k)) := by
        rw [(HK.out.below hbr).cell k, wn_get hkeysL k (by rw [keys_len]; exact hlt)]
        have : k < hkeysL.length := by rw [keys_len]; exact hlt
        simp [this]
      have hM := mixN_lt s hkeysL ws HS.out k
      have HE := Lib.hid hrs.eight
      have hM0 := wn_lt hM 0
      have hM1 := wn_lt hM 1
      have hM2 := wn_lt hM 2
      have hM4 := wn_lt hM 4
      have hM5 := wn_lt hM 5
      have hM6 := wn_lt hM 6
      have hst : mixN s hkeysL ws (k + 1) = stepL (mixN s hkeysL ws k) (wn hkeysL k) (wn ws k) := rfl
      obtain ⟨M, hMM⟩ : ∃ M, mixN s hkeysL ws k = M := ⟨_, rfl⟩
      rw [hMM] at HE hM0 hM1 hM2 hM4 hM5 hM6 hst
      obtain ⟨x, hx⟩ : ∃ x, wn ws k = x := ⟨_, rfl⟩
      obtain ⟨y, hy⟩ : ∃ y, wn hkeysL k = y := ⟨_, rfl⟩
      rw [hx] at cw1 hst
      rw [hy] at ck1 hst
      have HST := Lib.hid hst
      clear hst hx hy hMM hM hrs
      go_wp2_with fail
      refine (round_any g off c _ _ _ _ _ _ _ _ y x _ HE hM0 hM1 hM2 hM4 hM5 hM6).mono ?_
      rintro e w3 ⟨q, rfl, _, hQ, hb3⟩
      have hR3 : RS w3 q 0 (stepL M y x) := RS.blk hQ rfl
      have hB3 := bt hbr hb3
      clear hQ hb3
      go_wp2
      exact ⟨⟨k + 1, q, 0, 8, by omega, by go_num, rfl, by rw [HST.out]; exact hR3, hB3⟩, by simp [intOf]; omega⟩
    · obtain rfl : k = 64 := by omega
      rw [show ((64 : Nat) : Int) = (64 : Int) from rfl]
      obtain ⟨wo, rfl⟩ : ∃ wo : World, wo = wr := ⟨_, rfl⟩
      have HRR := Lib.hid hrs
      have hB4 : Below w.heap.size w wo := bt hB2 hbr
      have O0 : (wo.alloc (.cells #[] 79)).ownsRow wo.heap.size 79 1 (.slice (some ⟨wo.heap.size, 0, none⟩) 0 0) 0 [] := own_nil (Blk.new wo _ _) (Nat.le_refl _)
      have HS0 := Lib.hid (HRS.out.later hB4)
      have HO := Lib.hid O0
      clear O0 hrs
      go_wp2_with fail
      go_loopw [9, 33] (fun ov iv wi => ∃ k g1 c1 : Nat, k ≤ 8 ∧ iv = .int .i64 k ∧ ov = .slice (some ⟨g1, 0, none⟩) k c1 ∧ wi.ownsRow wo.heap.size 79 1 (.slice (some ⟨g1, 0, none⟩) k c1) k (((mixL s b).take k).map wv) ∧ Below wo.heap.size wo wi) (fun _ i _ => 8 - (intOf i).toNat)
      case atStart => exact ⟨0, _, _, Nat.zero_le _, rfl, rfl, HO.out, ba (Below.refl _ _) _⟩
      case round =>
        obtain ⟨k, g1, c1, hk, rfl, rfl, hown, hbi⟩ := hrel
        by_cases hlt : k < 8
        · have cm := cell_later hbi (HRR.out k hlt)
          have cs := cell_later hbi (HS0.out k hlt)
          have HT := Lib.hid (HML.out k hlt)
          obtain ⟨m, hm⟩ : ∃ m, wn (mixN s hkeysL ws 64) k = m := ⟨_, rfl⟩
          obtain ⟨x, hx⟩ : ∃ x, wn s k = x := ⟨_, rfl⟩
          rw [hm] at cm HT
          rw [hx] at cs HT
          obtain ⟨y, hy⟩ : ∃ y, (m + x) % 4294967296 = y := ⟨_, rfl⟩
          rw [hy] at HT
          have hyv : ((m : Int) + (x : Int)) % 4294967296 = (y : Int) := by omega
          have hownA := hown.alloc (.cells #[wv y] 79)
          have hnews := World.news_of_block (heap_alloc_new wr (.cells #[wv y] 79))
          have hsz := hbi.size
          clear hm hx hy
          go_wp2_with (at_builtin; refine wpList_append_own _ rfl (.tmp 38) (.tmp 45) 76 rfl wo.heap.size 79 ti _ 1 4 Tryz.underlying76 hi0 hz0 hz1 hz2 rfl (by decide) _ _ _ rfl hownA ⟨wr.heap.size, 0, none⟩ 1 1 [wv y] rfl rfl hnews (by simp [Value.oneCell']) (by unfold maxLen; omega) (by omega) (by simp; omega) ?_; intro v3 w3 hown3 hgrow3 _; obtain ⟨g3, c3, rfl⟩ := ownsRow_succ hown3)
          have hb3 : Below wo.heap.size wo w3 := (ba hbi _).grown hgrow3 (by simp; omega) (fun k e => (hownA.lt k e).1)
          exact ⟨⟨k + 1, g3, c3, by omega, by go_num, rfl, by rw [HT.out, List.map_append]; exact hown3, hb3⟩, by simp [intOf]; omega⟩
        · obtain rfl : k = 8 := by omega
          have htk : (mixL s b).take 8 = mixL s b := List.take_of_length_le (by rw [mixL_len]; exact Nat.le_refl _)
          rw [htk] at hown
          clear htk
          go_wp2
          go_ret
          exact ⟨_, rfl, hown.mono hB4.size, bt hB4 hbi⟩
end Go.Proofs.YtjonhenllhnibaaGreatDoor
/- The contracts of the reference's high, Pad and Same. -/
namespace Go.Proofs.YtjonhenllhnibaaGreatDoor
open Go.RowKit

/-- A number's lowest bytes, the lowest first. -/
def lowB : Nat → Nat → List UInt8
  | _, 0 => []
  | n, k + 1 => UInt8.ofNat (n % 256) :: lowB (n / 256) k
/-- .. and the highest first. -/
def highB (n k : Nat) : List UInt8 := (lowB n k).reverse
theorem lowB_len (n k : Nat) : (lowB n k).length = k := by
  induction k generalizing n with
  | zero => rfl
  | succ k ih => simp [lowB, ih]
theorem highB_len (n k : Nat) : (highB n k).length = k := by simp [highB, lowB_len]
theorem lowB_snoc (n k : Nat) : lowB n (k + 1) = lowB n k ++ [UInt8.ofNat (n / 256 ^ k % 256)] := by
  induction k generalizing n with
  | zero => simp [lowB]
  | succ k ih =>
    rw [lowB, ih (n / 256), lowB]
    simp [Nat.div_div_eq_div_mul, Nat.pow_succ, Nat.mul_comm]
theorem highB_succ (n k : Nat) : highB n (k + 1) = UInt8.ofNat (n / 256 ^ k % 256) :: highB n k := by
  unfold highB
  rw [lowB_snoc]
  simp

set_option maxRecDepth 100000 in
set_option maxHeartbeats 1000000 in
theorem hhigh_any (n m : Nat) (w : World) (hm : (m : Int) ≤ 1048576) (hn : (n : Int) ≤ 18446744073709551615) :
    Calls Tryz.prog 51 #[.int .u64 (n : Int), .int .i64 (m : Int)] w fun e w' => e = .returned (.string ⟨(highB n m).toArray⟩) ∧ Below w.heap.size w w' := by
  go_enter Tryz.func51, Tryz.ntmps51
  go_wp2
  go_loopw [0, 5, 6] (fun nv out iv wr => ∃ k q : Nat, k ≤ m ∧ iv = .int .i64 k ∧ nv = .int .u64 (q : Int) ∧ (q : Int) ≤ 18446744073709551615 ∧ Hid (q = n / 256 ^ k) ∧ out = .string ⟨(highB n k).toArray⟩ ∧ Below w.heap.size w wr) (fun _ _ i _ => m - (intOf i).toNat)
  case atStart => exact ⟨0, n, Nat.zero_le _, rfl, rfl, hn, Lib.hid (by simp), rfl, Below.refl _ _⟩
  case round =>
    obtain ⟨k, q, hk, rfl, rfl, hq1, HQ, rfl, hb⟩ := hrel
    by_cases hlt : k < m
    · have hL := highB_len n k
      have hS := highB_succ n k
      rw [← HQ.out] at hS
      obtain ⟨b, hbb⟩ : ∃ b, UInt8.ofNat (q % 256) = b := ⟨_, rfl⟩
      have hB : IntKind.u8.wrap ((q : Int) % 256) = (b.toNat : Int) := by rw [← hbb, IntKind.wrap_u8]; simp
      rw [hbb] at hS
      have hcv := one_byte b
      have hadd : ∀ W : World, (Op.stringOp .add ⟨[b].toArray⟩ ⟨(highB n k).toArray⟩).run Tryz.prog W = .ok (.string ⟨([b] ++ highB n k).toArray⟩) W := fun W => run_string_add_lists (P := Tryz.prog) W [b] (highB n k) (by simp) (by omega)
      have HS := Lib.hid hS
      clear hS hbb
      go_wp2
      exact ⟨⟨k + 1, q / 256, by omega, by go_num, by go_num, by omega, Lib.hid (by rw [HQ.out, Nat.div_div_eq_div_mul, Nat.pow_succ]), by rw [HS.out], ba hb _⟩, by simp [intOf]; omega⟩
    · obtain rfl : k = m := by omega
      go_wp2
      go_ret
      exact ⟨rfl, hb⟩

/-- How many bytes 0 a text's padding has, so far as it is known. -/
def padZ (n : Nat) : Nat := (119 - n % 64) % 64
/-- A text padded. -/
def padL (s : List UInt8) : List UInt8 := s ++ [128] ++ List.replicate (padZ s.length) 0 ++ highB (8 * s.length) 8
theorem padZ_mod (n : Nat) : (n + 1 + padZ n) % 64 = 56 := by unfold padZ; omega
theorem padZ_first (n k : Nat) (h : k < padZ n) : (n + 1 + k) % 64 ≠ 56 := by unfold padZ at h; omega
theorem padZ_lt (n : Nat) : padZ n < 64 := by unfold padZ; omega

set_option maxRecDepth 100000 in
set_option maxHeartbeats 1000000 in
theorem rpad_any (s : List UInt8) (w : World) (hs : s.length ≤ 1048576) :
    Calls Tryz.prog 49 #[.string ⟨s.toArray⟩] w fun e w' => e = .returned (.string ⟨(padL s).toArray⟩) ∧ Below w.heap.size w w' := by
  have hz := size_of s
  have hcv : ∀ W : World, (convert 90 9 (.slice (some ⟨W.heap.size, 0, none⟩) 1 1)).run Tryz.prog (W.alloc (.cells #[.int .u8 128] 5)) = .ok (.string ⟨[128].toArray⟩) (W.alloc (.cells #[.int .u8 128] 5)) := fun W => one_byte 128 W
  have hcz : ∀ W : World, (convert 90 9 (.slice (some ⟨W.heap.size, 0, none⟩) 1 1)).run Tryz.prog (W.alloc (.cells #[.int .u8 0] 5)) = .ok (.string ⟨[0].toArray⟩) (W.alloc (.cells #[.int .u8 0] 5)) := fun W => one_byte 0 W
  have hadd : ∀ W : World, (Op.stringOp .add ⟨s.toArray⟩ ⟨[128].toArray⟩).run Tryz.prog W = .ok (.string ⟨(s ++ [128]).toArray⟩) W := fun W => run_string_add_lists (P := Tryz.prog) W s [128] (by omega) (by simp)
  obtain ⟨N, hN⟩ : ∃ N, s.length = N := ⟨_, rfl⟩
  have hZ1 := padZ_mod N
  have hZ2 := padZ_first N
  have hZ3 := padZ_lt N
  obtain ⟨Z, hZ⟩ : ∃ Z, padZ N = Z := ⟨_, rfl⟩
  rw [hZ] at hZ1 hZ2 hZ3
  have HZ1 := Lib.hid hZ1
  have HZ2 := Lib.hid hZ2
  have HP : Hid (padL s = s ++ [128] ++ List.replicate Z 0 ++ highB (8 * N) 8) := Lib.hid (by unfold padL; rw [hN, hZ])
  rw [hN] at hz hs
  have HN := Lib.hid hN
  clear hN hZ hZ1 hZ2
  go_enter Tryz.func49, Tryz.ntmps49
  go_wp2_with fail
  go_loopw [3] (fun ov wr => ∃ k : Nat, k ≤ Z ∧ ov = .string ⟨(s ++ [128] ++ List.replicate k 0).toArray⟩ ∧ Below w.heap.size w wr) (fun o _ => match o with | .string x => 2097152 - x.size | _ => 0)
  case atStart => exact ⟨0, Nat.zero_le _, by simp, ba (Below.refl _ _) _⟩
  case round =>
    obtain ⟨k, hk, rfl, hb⟩ := hrel
    obtain ⟨S, hS⟩ : ∃ S, s ++ [128] ++ List.replicate k 0 = S := ⟨_, rfl⟩
    have hl : S.length = N + 1 + k := by rw [← hS, ← HN.out]; simp; omega
    have hsz := size_of S
    rw [hl] at hsz
    have hS1 : s ++ [128] ++ List.replicate (k + 1) 0 = S ++ [0] := by rw [← hS, List.replicate_succ']; simp
    rw [hS]
    by_cases hlt : k < Z
    · have hn0 : ¬ (((N : Int) + 1 + k) % 64 = 56) := by have := HZ2.out k hlt; omega
      have hne : (((N : Int) + 1 + k) % 64 != 56) = true := by simpa using hn0
      have hadd2 : ∀ W : World, (Op.stringOp .add ⟨S.toArray⟩ ⟨[0].toArray⟩).run Tryz.prog W = .ok (.string ⟨(S ++ [0]).toArray⟩) W := fun W => run_string_add_lists (P := Tryz.prog) W S [0] (by omega) (by simp)
      have HS1 := Lib.hid hS1
      have HH := Lib.hid hS
      clear hS1 hS hadd
      clear hn0
      go_wp2
      refine ⟨⟨k + 1, by omega, by rw [HS1.out], ba hb _⟩, ?_⟩
      show 2097152 - (⟨(S ++ [0]).toArray⟩ : ByteArray).size < 2097152 - (⟨S.toArray⟩ : ByteArray).size
      rw [size_of, size_of, List.length_append, hl]
      simp
      omega
    · obtain rfl : k = Z := by omega
      have hn0 : ((N : Int) + 1 + k) % 64 = 56 := by have := HZ1.out; omega
      have hne : (((N : Int) + 1 + k) % 64 != 56) = false := by simp [hn0]
      have HS1 := Lib.hid hS1
      have HH := Lib.hid hS
      clear hS1 hS hadd
      clear hn0
      go_wp2_with fail
      refine (hhigh_any (8 * N) 8 _ (by omega) (by omega)).mono ?_
      rintro e w1 ⟨rfl, hb1⟩
      have hHl := highB_len (8 * N) 8
      have hadd3 : ∀ W : World, (Op.stringOp .add ⟨S.toArray⟩ ⟨(highB (8 * N) 8).toArray⟩).run Tryz.prog W = .ok (.string ⟨(S ++ highB (8 * N) 8).toArray⟩) W := fun W => run_string_add_lists (P := Tryz.prog) W S _ (by omega) (by omega)
      go_wp2
      go_ret
      rw [HP.out, HH.out]
      exact ⟨rfl, bt hb hb1⟩
end Go.Proofs.YtjonhenllhnibaaGreatDoor
/- The contract of the reference's Sum, if words is as it should be. -/
namespace Go.Proofs.YtjonhenllhnibaaGreatDoor
open Go.RowKit

/-- A text's block, by its place. -/
def blockAt (P : List UInt8) (k : Nat) : List UInt8 := (P.drop (64 * k)).take 64
/-- The first state mixed with so many blocks. -/
def hsumN (P : List UInt8) : Nat → List Nat
  | 0 => startL
  | k + 1 => mixL (hsumN P k) (blockAt P k)
/-- Words' bytes. -/
def bytesW (L : List Nat) : List UInt8 := L.flatMap fun x => highB x 4
/-- A text's sum. -/
def hsumL (s : List UInt8) : List UInt8 := bytesW (hsumN (padL s) ((padL s).length / 64))
theorem sumN_len (P : List UInt8) (k : Nat) : (hsumN P k).length = 8 := by
  cases k with
  | zero => rfl
  | succ k => exact mixL_len _ _
theorem start_lt : ∀ x ∈ startL, x < 4294967296 := by decide
theorem hsumN_lt (P : List UInt8) (k : Nat) : ∀ x ∈ hsumN P k, x < 4294967296 := by
  cases k with
  | zero => exact start_lt
  | succ k => exact mixL_lt _ _
theorem padL_len (s : List UInt8) : (padL s).length = s.length + 9 + padZ s.length := by
  simp [padL, highB_len]; omega
theorem padL_mod (s : List UInt8) : (padL s).length % 64 = 0 := by
  rw [padL_len]
  have := padZ_mod s.length
  omega
theorem bytesW_len (L : List Nat) : (bytesW L).length = 4 * L.length := by
  induction L with
  | nil => rfl
  | cons x L ih =>
    have e : bytesW (x :: L) = highB x 4 ++ bytesW L := by simp [bytesW]
    rw [e, List.length_append, ih, highB_len]; simp; omega
theorem bytesW_take (L : List Nat) (k : Nat) (h : k < L.length) : bytesW (L.take (k + 1)) = bytesW (L.take k) ++ highB (wn L k) 4 := by
  rw [← List.take_append_getElem h, wn_get L k h]
  unfold bytesW
  rw [List.flatMap_append]
  simp only [List.flatMap_cons, List.flatMap_nil, List.append_nil]
theorem extract_block (P : List UInt8) (k : Nat) : (⟨P.toArray⟩ : ByteArray).extract (64 * k) (64 * k + 64) = ⟨(blockAt P k).toArray⟩ := by
  apply ByteArray.ext
  apply Array.toList_inj.1
  rw [Lib.extract_data]
  simp [blockAt]
theorem own_RS {W : World} {base g c : Nat} {L : List Nat} (h : W.ownsRow base 79 1 (.slice (some ⟨g, 0, none⟩) 8 c) 8 (L.map wv)) (hl : L.length = 8) : RS W g 0 L := fun j hj => by
  rw [Nat.zero_add, h.cellAt j (by omega), wn_get L j (by omega)]
  have : j < L.length := by omega
  simp [this]

set_option maxRecDepth 100000 in
set_option maxHeartbeats 2000000 in
theorem hrsum_any (HW : RWords) (s : List UInt8) (w : World) (hs : s.length ≤ 65536) :
    Calls Tryz.prog 21 #[.string ⟨s.toArray⟩] w fun e w' => e = .returned (.string ⟨(hsumL s).toArray⟩) ∧ Below w.heap.size w w' := by
  have hPl := padL_len s
  have hPm := padL_mod s
  have hZl := padZ_lt s.length
  obtain ⟨nb, hnb⟩ : ∃ nb, (padL s).length / 64 = nb := ⟨_, rfl⟩
  have hPn : (padL s).length = 64 * nb := by omega
  have hsum : hsumL s = bytesW (hsumN (padL s) nb) := by rw [← hnb]; rfl
  obtain ⟨P, hP⟩ : ∃ P, padL s = P := ⟨_, rfl⟩
  have HSUM := Lib.hid hsum
  have HPS := Lib.hid hP
  have hnb2 : nb ≤ 1100 := by omega
  rw [hP] at hPn HSUM
  have hzP := size_of P
  rw [hPn] at hzP
  have HPN := Lib.hid hPn
  have HWW : Hid RWords := HW
  clear hPl hPm hZl hnb hsum hP hPn HW
  go_enter Tryz.func21, Tryz.ntmps21
  go_wp2_with fail
  refine (rstart_any _).mono ?_
  rintro e w1 ⟨gs, rfl, _, hS, hb1⟩
  have HS0 := Lib.hid (RS.blk hS rfl)
  clear hS
  go_wp2_with fail
  refine (rpad_any s _ (by omega)).mono ?_
  rw [HPS.out]
  rintro e w2 ⟨rfl, hb2⟩
  have hB2 := bt hb1 hb2
  have HS2 := Lib.hid (HS0.out.later hb2)
  clear hb1 hb2
  go_wp2_with fail
  go_loopw [3, 5] (fun nv iv wr => ∃ k g off c : Nat, k ≤ nb ∧ iv = .int .i64 ((64 * k : Nat) : Int) ∧ nv = .slice (some ⟨g, off, none⟩) 8 c ∧ RS wr g off (hsumN P k) ∧ Below w.heap.size w wr) (fun _ i _ => 64 * nb - (intOf i).toNat)
  case atStart => exact ⟨0, gs, 0, 8, Nat.zero_le _, rfl, rfl, HS2.out, hB2⟩
  case round =>
    obtain ⟨k, g, off, c, hk, rfl, rfl, hrs, hb⟩ := hrel
    by_cases hlt : k < nb
    · have hex := extract_block P k
      have hbl : (blockAt P k).length = 64 := by rw [blockAt, List.length_take, List.length_drop, HPN.out]; omega
      have HBL := Lib.hid hbl
      have HRS := Lib.hid hrs
      obtain ⟨i, hi⟩ : ∃ i, 64 * k = i := ⟨_, rfl⟩
      rw [hi] at hex ⊢
      have j1 : (i : Int) + 64 ≤ ((64 * nb : Nat) : Int) := by omega
      have j2 : i + 64 ≤ 64 * nb := by omega
      have HI := Lib.hid hi
      clear hbl hrs hi
      go_wp2_with fail
      refine (rmix_any HWW.out g off c (hsumN P k) (blockAt P k) _ HRS.out (hsumN_lt P k) HBL.out).mono ?_
      rintro e w3 ⟨v, rfl, hown, hb3⟩
      obtain ⟨g3, c3, rfl⟩ := ownsRow_succ hown
      have hr3 := own_RS hown (mixL_len _ _)
      have hB3 := bt hb hb3
      clear hown hb3
      go_wp2
      exact ⟨⟨k + 1, g3, 0, c3, by omega, by have := HI.out; go_num, rfl, hr3, hB3⟩, by have := HI.out; simp [intOf]; omega⟩
    · obtain rfl : k = nb := by omega
      obtain ⟨L, hL⟩ : ∃ L, hsumN P k = L := ⟨_, rfl⟩
      have hLl : L.length = 8 := by rw [← hL]; exact sumN_len _ _
      have hLt : ∀ x ∈ L, x < 4294967296 := by rw [← hL]; exact hsumN_lt _ _
      rw [hL] at hrs HSUM
      obtain ⟨wo, rfl⟩ : ∃ wo : World, wo = wr := ⟨_, rfl⟩
      have HRS := Lib.hid hrs
      obtain ⟨i, hi⟩ : ∃ i, 64 * k = i := ⟨_, rfl⟩
      have hil : (i : Int) = (64 * k : Nat) := by omega
      rw [hi]
      rw [hi] at hzP
      clear hi hil
      have HLT := Lib.hid hLt
      have HLL := Lib.hid hLl
      clear hrs hLt hLl hL
      go_wp2_with fail
      go_loopw [6, 27] (fun ov iv wi => ∃ j : Nat, j ≤ 8 ∧ iv = .int .i64 j ∧ ov = .string ⟨(bytesW (L.take j)).toArray⟩ ∧ Below wo.heap.size wo wi) (fun _ i _ => 8 - (intOf i).toNat)
      case atStart => exact ⟨0, Nat.zero_le _, rfl, by simp [bytesW], Below.refl _ _⟩
      case round =>
        obtain ⟨j, hj, rfl, rfl, hbi⟩ := hrel
        by_cases hjl : j < 8
        · have cm := cell_later hbi (HRS.out j hjl)
          have HT := Lib.hid (bytesW_take L j (by rw [HLL.out]; exact hjl))
          have hx1 := wn_lt HLT.out j
          obtain ⟨x, hx⟩ : ∃ x, wn L j = x := ⟨_, rfl⟩
          rw [hx] at cm HT hx1
          have hbl : (bytesW (L.take j)).length ≤ 32 := by rw [bytesW_len, List.length_take]; omega
          have hhl := highB_len x 4
          have hadd : ∀ W : World, (Op.stringOp .add ⟨(bytesW (L.take j)).toArray⟩ ⟨(highB x 4).toArray⟩).run Tryz.prog W = .ok (.string ⟨(bytesW (L.take j) ++ highB x 4).toArray⟩) W := fun W => run_string_add_lists (P := Tryz.prog) W _ _ (by omega) (by omega)
          clear hx hhl
          go_wp2_with fail
          refine (hhigh_any x 4 _ (by omega) (by omega)).mono ?_
          rintro e w5 ⟨rfl, hb5⟩
          go_wp2
          exact ⟨⟨j + 1, by omega, by go_num, by rw [HT.out], bt hbi hb5⟩, by simp [intOf]; omega⟩
        · obtain rfl : j = 8 := by omega
          have htk : L.take 8 = L := List.take_of_length_le (by rw [HLL.out]; exact Nat.le_refl _)
          rw [htk]
          clear htk
          go_wp2
          go_ret
          rw [HSUM.out]
          exact ⟨rfl, bt hb hbi⟩
end Go.Proofs.YtjonhenllhnibaaGreatDoor
