/- Texts of this seat, one behind the other: KMath, KTold, KFill, KXored, KChange, KRep, KTag, KSeal, KOpen. -/
import Derived.Test.YtcecjoodlmpgnaaGreatQ01
import Derived.Test.YtcecjoodlmpgnaaGreatQ09
import Derived.Test.YtcecjoodlmpgnaaGreatQ11
import Derived.Test.YtcecjoodlmpgnaaGreatQ18
import Derived.Test.YtcecjoodlmpgnaaGreatQ19
/- The bytes of a stream by their places, and what is left of its block; plain lists. -/
namespace Go.Proofs.YtcecjoodlmpgnaaGreat

theorem be4_four (c : Nat) (h : c < 4294967296) : be4 c = [UInt8.ofNat (c / 16777216 % 256), UInt8.ofNat (c / 65536 % 256), UInt8.ofNat (c / 256 % 256), UInt8.ofNat (c % 256)] := by
  unfold be4
  rw [Nat.mod_eq_of_lt h]
  simp [beL]
theorem be4_mod (c : Nat) : be4 (c % 4294967296) = be4 c := by unfold be4; rw [Nat.mod_mod]
theorem be4_len (c : Nat) : (be4 c).length = 4 := beL_len _ _
theorem ub_app (A B : List UInt8) (k : Nat) : ub (A ++ B) k = if k < A.length then ub A k else ub B (k - A.length) := by
  by_cases h : k < A.length
  · rw [if_pos h]; simp [ub, List.getD, List.getElem?_append_left h]
  · rw [if_neg h]; simp [ub, List.getD, List.getElem?_append_right (Nat.le_of_not_lt h)]
section
variable (E : List UInt8 → List UInt8) (nonce : List UInt8) (c : Nat)
/-- A stream's byte at a place. -/
def ksb (k : Nat) : UInt8 := ub (E (nonce ++ be4 (c + k / 16))) (k % 16)
/-- What is left of the block, so many bytes taken. -/
def ksr (k : Nat) : List UInt8 := if k % 16 = 0 then [] else (E (nonce ++ be4 (c + k / 16))).drop (k % 16)
/-- The number of the next block. -/
def ksn (k : Nat) : Nat := (c + (k + 15) / 16) % 4294967296
/-- A text xor a stream. -/
def ksx (t : List UInt8) : List UInt8 := tab t.length fun k => ub t k ^^^ ksb E nonce c k
end
section
variable {E : List UInt8 → List UInt8} {nonce : List UInt8} {c : Nat}
theorem strB_len (hE : ∀ i, (E (nonce ++ be4 i)).length = 16) : ∀ n, (strB E nonce c n).length = 16 * n := by
  intro n
  induction n with
  | zero => rfl
  | succ n ih => rw [strB, List.length_append, ih, hE]; omega
theorem ub_strB (hE : ∀ i, (E (nonce ++ be4 i)).length = 16) : ∀ n k, k < 16 * n → ub (strB E nonce c n) k = ksb E nonce c k := by
  intro n
  induction n with
  | zero => intro k h; omega
  | succ n ih =>
    intro k h
    rw [strB, ub_app, strB_len hE]
    by_cases hk : k < 16 * n
    · rw [if_pos hk, ih k hk]
    · rw [if_neg hk]
      unfold ksb
      rw [show k / 16 = n by omega, show k % 16 = k - 16 * n by omega]
theorem strL_len (hE : ∀ i, (E (nonce ++ be4 i)).length = 16) (n : Nat) : (strL E nonce c n).length = n := by
  unfold strL
  rw [List.length_take, strB_len hE]
  omega
theorem ub_strL (hE : ∀ i, (E (nonce ++ be4 i)).length = 16) {n k : Nat} (hk : k < n) : ub (strL E nonce c n) k = ksb E nonce c k := by
  unfold strL
  rw [gub_take, if_pos hk, ub_strB hE _ _ (by omega)]
theorem ksx_len (t : List UInt8) : (ksx E nonce c t).length = t.length := tab_len _ _
theorem ub_ksx {t : List UInt8} {k : Nat} (hk : k < t.length) : ub (ksx E nonce c t) k = ub t k ^^^ ksb E nonce c k := ub_tab _ hk
theorem ksx_is (hE : ∀ i, (E (nonce ++ be4 i)).length = 16) (t : List UInt8) : ksx E nonce c t = xorL t (strL E nonce c t.length) := by
  unfold ksx xorL
  exact tab_ext fun i hi => by rw [ub_strL hE hi]
theorem ksx_zeros (hE : ∀ i, (E (nonce ++ be4 i)).length = 16) (n : Nat) : ksx E nonce c (List.replicate n 0) = strL E nonce c n := by
  refine list_ext (n := n) (by rw [ksx_len, List.length_replicate]) (strL_len hE _) fun i hi => ?_
  rw [ub_ksx (by rw [List.length_replicate]; exact hi), ub_strL hE hi]
  have : ub (List.replicate n (0 : UInt8)) i = 0 := by simp [ub, List.getD, hi]
  rw [this, UInt8.zero_xor]
/-- Behind a byte that is taken of a block that was not. -/
theorem ksr_first {k : Nat} (hk : k % 16 = 0) (b : UInt8) (r : List UInt8) (he : E (nonce ++ be4 (c + k / 16)) = b :: r) : ksb E nonce c k = b ∧ ksr E nonce c (k + 1) = r ∧ ksn c (k + 1) = (ksn c k + 1) % 4294967296 ∧ ksr E nonce c k = [] ∧ be4 (ksn c k) = be4 (c + k / 16) := by
  refine ⟨?_, ?_, ?_, ?_, ?_⟩
  · unfold ksb; rw [hk, he]; rfl
  · unfold ksr
    rw [if_neg (by omega), show (k + 1) / 16 = k / 16 by omega, show (k + 1) % 16 = 1 by omega, he]
    rfl
  · unfold ksn
    rw [show (k + 1 + 15) / 16 = (k + 15) / 16 + 1 by omega]
    omega
  · unfold ksr; rw [if_pos hk]
  · unfold ksn
    rw [be4_mod, show (k + 15) / 16 = k / 16 by omega]
/-- Behind a byte that is taken of a block that was begun. -/
theorem ksr_more (hE : ∀ i, (E (nonce ++ be4 i)).length = 16) {k : Nat} (hk : k % 16 ≠ 0) : ∃ b r, ksr E nonce c k = b :: r ∧ ksb E nonce c k = b ∧ ksr E nonce c (k + 1) = r ∧ ksn c (k + 1) = ksn c k := by
  have hl := hE (c + k / 16)
  have hd := List.drop_eq_getElem_cons (l := E (nonce ++ be4 (c + k / 16))) (i := k % 16) (by omega)
  refine ⟨(E (nonce ++ be4 (c + k / 16)))[k % 16]'(by omega), (E (nonce ++ be4 (c + k / 16))).drop (k % 16 + 1), ?_, ?_, ?_, ?_⟩
  · unfold ksr; rw [if_neg hk]; exact hd
  · unfold ksb; exact ub_at (by omega)
  · unfold ksr
    by_cases h : (k + 1) % 16 = 0
    · rw [if_pos h, List.drop_of_length_le (by omega)]
    · rw [if_neg h, show (k + 1) / 16 = k / 16 by omega, show (k + 1) % 16 = k % 16 + 1 by omega]
  · unfold ksn
    rw [show (k + 1 + 15) / 16 = (k + 15) / 16 by omega]
end
end Go.Proofs.YtcecjoodlmpgnaaGreat
/- The contracts of told and of the reference's counter: a number's 4 bytes. -/
namespace Go.Proofs.YtcecjoodlmpgnaaGreat
open Go.RowKit

theorem four_conv (x0 x1 x2 x3 : Int) (b0 b1 b2 b3 : UInt8) (h0 : x0 = (b0.toNat : Int)) (h1 : x1 = (b1.toNat : Int)) (h2 : x2 = (b2.toNat : Int)) (h3 : x3 = (b3.toNat : Int)) (W : World) :
    (convert 64 9 (.slice (some ⟨W.heap.size, 0, none⟩) 4 4)).run Tryz.prog (W.alloc (.cells #[.int .u8 x0, .int .u8 x1, .int .u8 x2, .int .u8 x3] 5)) = .ok (.string ⟨[b0, b1, b2, b3].toArray⟩) (W.alloc (.cells #[.int .u8 x0, .int .u8 x1, .int .u8 x2, .int .u8 x3] 5)) := by
  subst h0 h1 h2 h3
  exact run_convert_bytes_back (P := Tryz.prog) (W.alloc (.cells #[.int .u8 (b0.toNat : Int), .int .u8 (b1.toNat : Int), .int .u8 (b2.toNat : Int), .int .u8 (b3.toNat : Int)] 5)) 64 9 5 ⟨W.heap.size, 0, none⟩ 4 [b0, b1, b2, b3] Tryz.underlying64 Tryz.underlying5 Tryz.underlying9 (fun j hj => by
    obtain rfl | rfl | rfl | rfl : j = 0 ∨ j = 1 ∨ j = 2 ∨ j = 3 := by simp at hj; omega
    all_goals simp [Addr.add])
theorem be4_conv (c : Nat) (hc : c < 4294967296) (x0 x1 x2 x3 : Int) (h0 : x0 = ((c / 16777216 % 256 : Nat) : Int)) (h1 : x1 = ((c / 65536 % 256 : Nat) : Int)) (h2 : x2 = ((c / 256 % 256 : Nat) : Int)) (h3 : x3 = ((c % 256 : Nat) : Int)) (W : World) :
    (convert 64 9 (.slice (some ⟨W.heap.size, 0, none⟩) 4 4)).run Tryz.prog (W.alloc (.cells #[.int .u8 x0, .int .u8 x1, .int .u8 x2, .int .u8 x3] 5)) = .ok (.string ⟨(be4 c).toArray⟩) (W.alloc (.cells #[.int .u8 x0, .int .u8 x1, .int .u8 x2, .int .u8 x3] 5)) := by
  rw [be4_four c hc]
  have hm : ∀ n : Nat, (UInt8.ofNat (n % 256)).toNat = n % 256 := fun n => by simp
  exact four_conv x0 x1 x2 x3 _ _ _ _ (by rw [hm]; exact h0) (by rw [hm]; exact h1) (by rw [hm]; exact h2) (by rw [hm]; exact h3) W

set_option maxRecDepth 100000 in
set_option maxHeartbeats 2000000 in
theorem ktold_any (c : Nat) (w : World) (hc : c < 4294967296) : Calls Tryz.prog 53 #[.int .u32 (c : Int)] w fun e w' => e = .returned (.string ⟨(be4 c).toArray⟩) ∧ Below w.heap.size w w' := by
  have hcv := be4_conv c hc ((c : Int) / 16777216) ((c : Int) / 65536 % 256) ((c : Int) / 256 % 256) ((c : Int) % 256) (by omega) (by omega) (by omega) (by omega) w
  generalize be4 c = B at hcv ⊢
  go_enter Tryz.func53, Tryz.ntmps53
  go_wp2
  go_ret
  exact ⟨rfl, ba (Below.refl _ _) _⟩
set_option maxRecDepth 100000 in
set_option maxHeartbeats 2000000 in
theorem kcounter_any (c : Nat) (w : World) (hc : c < 4294967296) : Calls Tryz.prog 48 #[.int .u32 (c : Int)] w fun e w' => e = .returned (.string ⟨(be4 c).toArray⟩) ∧ Below w.heap.size w w' := by
  have hcv := be4_conv c hc ((c : Int) / 16777216) ((c : Int) / 65536 % 256) ((c : Int) / 256 % 256) ((c : Int) % 256) (by omega) (by omega) (by omega) (by omega) w
  generalize be4 c = B at hcv ⊢
  go_enter Tryz.func48, Tryz.ntmps48
  go_wp2
  go_ret
  exact ⟨rfl, ba (Below.refl _ _) _⟩
end Go.Proofs.YtcecjoodlmpgnaaGreat
/- The contracts of streamOf and fill. -/
namespace Go.Proofs.YtcecjoodlmpgnaaGreat
open Go.RowKit

/-- A stream in memory: its next block's number, and what is left of its block. -/
abbrev kst (key nonce : List UInt8) (n : Nat) (R : List UInt8) : Array Value := #[.string ⟨key.toArray⟩, .string ⟨nonce.toArray⟩, .int .u32 (n : Int), .string ⟨R.toArray⟩]
set_option maxRecDepth 100000 in
set_option maxHeartbeats 2000000 in
theorem streamOf_any (key nonce : List UInt8) (c : Nat) (w : World) : Calls Tryz.prog 32 #[.string ⟨key.toArray⟩, .string ⟨nonce.toArray⟩, .int .u32 (c : Int)] w fun e w' => e = .returned (.pointer (some ⟨w.heap.size, 0, none⟩)) ∧ Blk w' w.heap.size 73 (kst key nonce c []) ∧ Below w.heap.size w w' := by
  go_enter Tryz.func32, Tryz.ntmps32
  go_wp2
  go_ret
  exact ⟨rfl, Blk.new _ _ _, ba (Below.refl _ _) _⟩

set_option maxRecDepth 100000 in
set_option maxHeartbeats 4000000 in
theorem fill_any (key nonce R : List UInt8) (n g : Nat) (w : World) (hk : key.length = 16 ∨ key.length = 32) (hn : nonce.length = 12) (hn32 : n < 4294967296) (h : Blk w g 73 (kst key nonce n R)) :
    Calls Tryz.prog 42 #[.pointer (some ⟨g, 0, none⟩)] w fun e w' => e = .returned (.tuple #[]) ∧ Blk w' g 73 (kst key nonce ((n + 1) % 4294967296) (encL key (nonce ++ be4 n))) ∧ Off g g w w' := by
  have HT := Lib.hid (fun W => ktold_any n W hn32)
  have HE := Lib.hid (fun W => enc_yes key (nonce ++ be4 n) W hk (by rw [List.length_append, hn, be4_len]))
  have HAD : Hid (∀ W : World, (Op.stringOp .add ⟨nonce.toArray⟩ ⟨(be4 n).toArray⟩).run Tryz.prog W = .ok (.string ⟨(nonce ++ be4 n).toArray⟩) W) := Lib.hid fun W => run_string_add_lists (P := Tryz.prog) W _ _ (by omega) (by rw [be4_len]; omega)
  generalize encL key (nonce ++ be4 n) = E at HE ⊢
  generalize nonce ++ be4 n = NB at HE HAD
  generalize be4 n = B at HT HAD
  obtain ⟨m, hm⟩ : ∃ m, (n + 1) % 4294967296 = m := ⟨_, rfl⟩
  have hwr : ((n : Int) + 1) % 4294967296 = (m : Int) := by omega
  rw [hm]
  clear hk hn hm
  go_enter Tryz.func42, Tryz.ntmps42
  --R
  go_wp2_with fail
  have hbD := Blk.drew h
  have hS0 : (fun W : World => W.cell? ⟨g, 0, none⟩ = some (.string ⟨key.toArray⟩) ∧ W.cell? ⟨g, 1, none⟩ = some (.string ⟨nonce.toArray⟩) ∧ W.cell? ⟨g, 2, none⟩ = some (.int .u32 (n : Int))) w.drew := ⟨hbD.cell 0, hbD.cell 1, hbD.cell 2⟩
  refine wp_region_held_drew (S := fun W => W.cell? ⟨g, 0, none⟩ = some (.string ⟨key.toArray⟩) ∧ W.cell? ⟨g, 1, none⟩ = some (.string ⟨nonce.toArray⟩) ∧ W.cell? ⟨g, 2, none⟩ = some (.int .u32 (n : Int))) (by kernel_rfl) hS0 (fun hHeld => ?_)
  clear hS0
  refine wpAnyH_take (i := 0) (oi := ⟨some 3, _, _, _, _, _⟩) (v := ?_) rfl (by kernel_rfl) (by kernel_rfl) (by kernel_rfl) (fun _ _ _ h => h) (Or.inl ⟨by rfl, ?_⟩) (by assumption) ?_
  rotate_left
  · (intro w9 hSw; (try dsimp only at hSw); go_simp; try with_reducible rfl)
  try simp only [Act.put, List.setIfInBounds_toArray, List.set_cons_zero, List.set_cons_succ]
  refine wpAnyH_take (i := 1) (oi := ⟨some 4, _, _, _, _, _⟩) (v := ?_) rfl (by kernel_rfl) (by kernel_rfl) (by kernel_rfl) (fun _ _ _ h => h) (Or.inl ⟨by rfl, ?_⟩) (by assumption) ?_
  rotate_left
  · (intro w9 hSw; (try dsimp only at hSw); go_simp; try with_reducible rfl)
  try simp only [Act.put, List.setIfInBounds_toArray, List.set_cons_zero, List.set_cons_succ]
  refine wpAnyH_take (i := 2) (oi := ⟨some 5, _, _, _, _, _⟩) (v := ?_) rfl (by kernel_rfl) (by kernel_rfl) (by kernel_rfl) (fun _ _ _ h => h) (Or.inl ⟨by rfl, ?_⟩) (by assumption) ?_
  rotate_left
  · (intro w9 hSw; (try dsimp only at hSw); go_simp; try with_reducible rfl)
  try simp only [Act.put, List.setIfInBounds_toArray, List.set_cons_zero, List.set_cons_succ]
  refine wpAnyH_take (i := 3) (oi := ⟨some 6, _, _, _, _, _⟩) (v := ?_) rfl (by kernel_rfl) (by kernel_rfl) (by kernel_rfl) (fun _ _ _ h => h) (Or.inl ⟨by rfl, ?_⟩) (by assumption) ?_
  rotate_left
  · (intro w9 hSw; (try dsimp only at hSw); go_simp; try with_reducible rfl)
  try simp only [Act.put, List.setIfInBounds_toArray, List.set_cons_zero, List.set_cons_succ]
  refine wpAnyH_take (i := 4) (oi := ⟨some 7, _, _, _, _, _⟩) (v := .string ⟨key.toArray⟩) rfl (by kernel_rfl) (by kernel_rfl) (by kernel_rfl) (fun _ _ _ h => h) (Or.inl ⟨by rfl, ?_⟩) (by assumption) ?_
  · (intro w9 hSw; have f0 := hSw.1; clear hSw; (try dsimp only at hSw); go_simp)
  try simp only [Act.put, List.setIfInBounds_toArray, List.set_cons_zero, List.set_cons_succ]
  refine wpAnyH_take (i := 5) (oi := ⟨some 8, _, _, _, _, _⟩) (v := ?_) rfl (by kernel_rfl) (by kernel_rfl) (by kernel_rfl) (fun _ _ _ h => h) (Or.inl ⟨by rfl, ?_⟩) (by assumption) ?_
  rotate_left
  · (intro w9 hSw; (try dsimp only at hSw); go_simp; try with_reducible rfl)
  try simp only [Act.put, List.setIfInBounds_toArray, List.set_cons_zero, List.set_cons_succ]
  refine wpAnyH_take (i := 6) (oi := ⟨some 9, _, _, _, _, _⟩) (v := ?_) rfl (by kernel_rfl) (by kernel_rfl) (by kernel_rfl) (fun _ _ _ h => h) (Or.inl ⟨by rfl, ?_⟩) (by assumption) ?_
  rotate_left
  · (intro w9 hSw; (try dsimp only at hSw); go_simp; try with_reducible rfl)
  try simp only [Act.put, List.setIfInBounds_toArray, List.set_cons_zero, List.set_cons_succ]
  refine wpAnyH_take (i := 7) (oi := ⟨some 10, _, _, _, _, _⟩) (v := ?_) rfl (by kernel_rfl) (by kernel_rfl) (by kernel_rfl) (fun _ _ _ h => h) (Or.inl ⟨by rfl, ?_⟩) (by assumption) ?_
  rotate_left
  · (intro w9 hSw; (try dsimp only at hSw); go_simp; try with_reducible rfl)
  try simp only [Act.put, List.setIfInBounds_toArray, List.set_cons_zero, List.set_cons_succ]
  refine wpAnyH_take (i := 8) (oi := ⟨some 11, _, _, _, _, _⟩) (v := .string ⟨nonce.toArray⟩) rfl (by kernel_rfl) (by kernel_rfl) (by kernel_rfl) (fun _ _ _ h => h) (Or.inl ⟨by rfl, ?_⟩) (by assumption) ?_
  · (intro w9 hSw; have f0 := hSw.2.1; clear hSw; (try dsimp only at hSw); go_simp)
  try simp only [Act.put, List.setIfInBounds_toArray, List.set_cons_zero, List.set_cons_succ]
  refine wpAnyH_take (i := 9) (oi := ⟨some 12, _, _, _, _, _⟩) (v := ?_) rfl (by kernel_rfl) (by kernel_rfl) (by kernel_rfl) (fun _ _ _ h => h) (Or.inl ⟨by rfl, ?_⟩) (by assumption) ?_
  rotate_left
  · (intro w9 hSw; (try dsimp only at hSw); go_simp; try with_reducible rfl)
  try simp only [Act.put, List.setIfInBounds_toArray, List.set_cons_zero, List.set_cons_succ]
  refine wpAnyH_take (i := 10) (oi := ⟨some 13, _, _, _, _, _⟩) (v := ?_) rfl (by kernel_rfl) (by kernel_rfl) (by kernel_rfl) (fun _ _ _ h => h) (Or.inl ⟨by rfl, ?_⟩) (by assumption) ?_
  rotate_left
  · (intro w9 hSw; (try dsimp only at hSw); go_simp; try with_reducible rfl)
  try simp only [Act.put, List.setIfInBounds_toArray, List.set_cons_zero, List.set_cons_succ]
  refine wpAnyH_take (i := 11) (oi := ⟨some 14, _, _, _, _, _⟩) (v := ?_) rfl (by kernel_rfl) (by kernel_rfl) (by kernel_rfl) (fun _ _ _ h => h) (Or.inl ⟨by rfl, ?_⟩) (by assumption) ?_
  rotate_left
  · (intro w9 hSw; (try dsimp only at hSw); go_simp; try with_reducible rfl)
  try simp only [Act.put, List.setIfInBounds_toArray, List.set_cons_zero, List.set_cons_succ]
  refine wpAnyH_take (i := 12) (oi := ⟨some 15, _, _, _, _, _⟩) (v := .int .u32 (n : Int)) rfl (by kernel_rfl) (by kernel_rfl) (by kernel_rfl) (fun _ _ _ h => h) (Or.inl ⟨by rfl, ?_⟩) (by assumption) ?_
  · (intro w9 hSw; have f0 := hSw.2.2; clear hSw; (try dsimp only at hSw); go_simp)
  try simp only [Act.put, List.setIfInBounds_toArray, List.set_cons_zero, List.set_cons_succ]
  refine wpAnyH_ready (rs := [13]) (by kernel_rfl) (by simp) ?_
  refine AllReadyH.cons (o := ⟨some 16, _, _, _, _, _⟩) rfl (fun K9 hK9 => ?_) AllReadyH.nil
  go_simp; go_at_call 53
  refine (HT.out _).mono ?_
  rintro e w1 ⟨rfl, hb1⟩
  have B1 := Lib.hid (hbD.below hb1)
  refine hK9.out _ _ ?_ (fun hHeld => ?_)
  · exact ⟨B1.out.cell 0, B1.out.cell 1, B1.out.cell 2⟩
  clear hK9 K9
  try simp only [Act.put, List.setIfInBounds_toArray, List.set_cons_zero, List.set_cons_succ]
  refine wpAnyH_take (i := 14) (oi := ⟨some 17, _, _, _, _, _⟩) (v := .string ⟨NB.toArray⟩) rfl (by kernel_rfl) (by kernel_rfl) (by kernel_rfl) (fun _ _ _ h => h) (Or.inl ⟨by rfl, ?_⟩) (by assumption) ?_
  · (intro w9 hSw; have f0 := HAD.out w9; clear hSw; (try dsimp only at hSw); go_simp)
  try simp only [Act.put, List.setIfInBounds_toArray, List.set_cons_zero, List.set_cons_succ]
  refine wpAnyH_ready (rs := [15]) (by kernel_rfl) (by simp) ?_
  refine AllReadyH.cons (o := ⟨some 18, _, _, _, _, _⟩) rfl (fun K9 hK9 => ?_) AllReadyH.nil
  go_simp; go_at_call 43
  refine (HE.out _).mono ?_
  rintro e w2 ⟨rfl, hb2⟩
  have B2 := Lib.hid (B1.out.below hb2)
  refine hK9.out _ _ ?_ (fun hHeld => ?_)
  · exact ⟨B2.out.cell 0, B2.out.cell 1, B2.out.cell 2⟩
  clear hK9 K9
  try simp only [Act.put, List.setIfInBounds_toArray, List.set_cons_zero, List.set_cons_succ]
  refine wpAnyH_take (i := 16) (oi := ⟨some 2, _, _, _, _, _⟩) (v := ?_) rfl (by kernel_rfl) (by kernel_rfl) (by kernel_rfl) (fun _ _ _ h => h) (Or.inl ⟨by rfl, ?_⟩) (by assumption) ?_
  rotate_left
  · (intro w9 hSw; (try dsimp only at hSw); go_simp; try with_reducible rfl)
  try simp only [Act.put, List.setIfInBounds_toArray, List.set_cons_zero, List.set_cons_succ]
  refine wpAnyH_take (i := 17) (oi := ⟨some 19, _, _, _, _, _⟩) (v := ?_) rfl (by kernel_rfl) (by kernel_rfl) (by kernel_rfl) (fun _ _ _ h => h) (Or.inl ⟨by rfl, ?_⟩) (by assumption) ?_
  rotate_left
  · (intro w9 hSw; (try dsimp only at hSw); go_simp; try with_reducible rfl)
  try simp only [Act.put, List.setIfInBounds_toArray, List.set_cons_zero, List.set_cons_succ]
  refine wpAnyH_take (i := 18) (oi := ⟨some 20, _, _, _, _, _⟩) (v := ?_) rfl (by kernel_rfl) (by kernel_rfl) (by kernel_rfl) (fun _ _ _ h => h) (Or.inl ⟨by rfl, ?_⟩) (by assumption) ?_
  rotate_left
  · (intro w9 hSw; (try dsimp only at hSw); go_simp; try with_reducible rfl)
  try simp only [Act.put, List.setIfInBounds_toArray, List.set_cons_zero, List.set_cons_succ]
  refine wpAnyH_take (i := 19) (oi := ⟨some 21, _, _, _, _, _⟩) (v := ?_) rfl (by kernel_rfl) (by kernel_rfl) (by kernel_rfl) (fun _ _ _ h => h) (Or.inl ⟨by rfl, ?_⟩) (by assumption) ?_
  rotate_left
  · (intro w9 hSw; (try dsimp only at hSw); go_simp; try with_reducible rfl)
  try simp only [Act.put, List.setIfInBounds_toArray, List.set_cons_zero, List.set_cons_succ]
  refine wpAnyH_take (i := 20) (oi := ⟨some 22, _, _, _, _, _⟩) (v := ?_) rfl (by kernel_rfl) (by kernel_rfl) (by kernel_rfl) (fun _ _ _ h => h) (Or.inl ⟨by rfl, ?_⟩) (by assumption) ?_
  rotate_left
  · (intro w9 hSw; (try dsimp only at hSw); go_simp; try with_reducible rfl)
  try simp only [Act.put, List.setIfInBounds_toArray, List.set_cons_zero, List.set_cons_succ]
  refine wpAnyH_ready (rs := [21]) (by kernel_rfl) (by simp) ?_
  refine AllReadyH.cons (o := ⟨none, _, _, _, _, _⟩) rfl (fun K9 hK9 => ?_) AllReadyH.nil
  have c3 := B2.out.cell 3; have z3 := B2.out.frozen 3; have B3 := Lib.hid (B2.out.set_ 3 (.string ⟨E.toArray⟩))
  go_simp
  refine hK9.out _ _ ?_ (fun hHeld => ?_)
  · exact ⟨B3.out.cell 0, B3.out.cell 1, B3.out.cell 2⟩
  clear hK9 K9
  try simp only [Act.put]
  refine wpAnyH_done (by kernel_rfl) ?_ _
  generalize hw3 : w2.setCell ⟨g, 3, none⟩ (.string ⟨E.toArray⟩) = w3 at B3 ⊢
  have O3 : Off g g w w3 := by
    rw [← hw3]
    exact (((Off.refl g g w).drew.below_mid hb1).below_mid hb2).setCell (.inl rfl) _
  have C3 : Hid (Blk w3 g 73 (kst key nonce n E)) := B3
  have c2 := C3.out.cell 2
  have f2 := C3.out.frozen 2
  have K4 := Lib.hid (C3.out.set_ 2 (.int .u32 (m : Int)))
  have O4 := O3.setCell (q := ⟨g, 2, none⟩) (.inl rfl) (.int .u32 (m : Int))
  clear hw3 hb1 hb2 B1 B2 B3 hbD h HT HE HAD O3 C3
  go_wp2_with fail
  go_end0
  exact ⟨rfl, K4.out, O4⟩
end Go.Proofs.YtcecjoodlmpgnaaGreat
/- The contract of xored: a byte xor the stream's next. -/
namespace Go.Proofs.YtcecjoodlmpgnaaGreat
open Go.RowKit

theorem encL_blk (key nonce : List UInt8) (hn : nonce.length = 12) : ∀ i, (encL key (nonce ++ be4 i)).length = 16 := fun i => encL_len key _ (by rw [List.length_append, hn, be4_len])
theorem ksn_lt (c k : Nat) : ksn c k < 4294967296 := Nat.mod_lt _ (by decide)
theorem cons_extract (b : UInt8) (r : List UInt8) : (⟨(b :: r).toArray⟩ : ByteArray).extract 1 (r.length + 1) = ⟨r.toArray⟩ := by
  apply ByteArray.ext
  apply Array.toList_inj.1
  rw [Lib.extract_data]
  simp
set_option maxRecDepth 100000 in
set_option maxHeartbeats 4000000 in
theorem xored_any (key nonce : List UInt8) (c k g : Nat) (b : UInt8) (w : World) (hk : key.length = 16 ∨ key.length = 32) (hn : nonce.length = 12) (h : Blk w g 73 (kst key nonce (ksn c k) (ksr (encL key) nonce c k))) :
    Calls Tryz.prog 33 #[.pointer (some ⟨g, 0, none⟩), .int .u8 (b.toNat : Int)] w fun e w' => e = .returned (.int .u8 ((b ^^^ ksb (encL key) nonce c k).toNat : Int)) ∧ Blk w' g 73 (kst key nonce (ksn c (k + 1)) (ksr (encL key) nonce c (k + 1))) ∧ Off g g w w' := by
  have hE := encL_blk key nonce hn
  by_cases h16 : k % 16 = 0
  · obtain ⟨x, r, he⟩ : ∃ x r, encL key (nonce ++ be4 (c + k / 16)) = x :: r := by
      have := hE (c + k / 16)
      cases hh : encL key (nonce ++ be4 (c + k / 16)) with
      | nil => rw [hh] at this; cases this
      | cons x r => exact ⟨x, r, rfl⟩
    have hrl : r.length = 15 := by have := hE (c + k / 16); rw [he] at this; simpa using this
    obtain ⟨e1, e2, e3, e4, e5⟩ := ksr_first h16 x r he
    rw [e1, e2, e3]
    rw [e4] at h
    have HF := Lib.hid (fill_any key nonce [] (ksn c k) g w hk hn (ksn_lt _ _) h)
    rw [e5, he] at HF
    have c3 := h.cell 3
    have hix := fun W => index_is ⟨(x :: r).toArray⟩ 0 0 x rfl rfl W
    have hex := cons_extract x r
    have hsz := size_of (x :: r)
    have hxr := xor_byte b x
    generalize (ksn c k + 1) % 4294967296 = m at HF ⊢
    rw [hrl] at hex
    rw [List.length_cons, hrl] at hsz
    obtain ⟨z, hz⟩ : ∃ z, b ^^^ x = z := ⟨_, rfl⟩
    rw [hz] at hxr ⊢
    generalize (x :: r) = L at HF hix hex hsz
    clear hz he hrl e1 e2 e3 e4 e5 hE h16 hk hn
    go_enter Tryz.func33, Tryz.ntmps33
    go_wp2_with fail
    refine HF.out.mono ?_
    rintro e w1 ⟨rfl, B1, O1⟩
    have d3 := B1.cell 3
    have f3 := B1.frozen 3
    have B2 := Lib.hid (B1.set_ 3 (.string ⟨r.toArray⟩))
    have O2 := O1.setCell (q := ⟨g, 3, none⟩) (.inl rfl) (.string ⟨r.toArray⟩)
    clear c3 HF B1 O1 h
    go_wp2
    go_ret
    exact ⟨rfl, B2.out, O2⟩
  · obtain ⟨x, r, e4, e1, e2, e3⟩ := ksr_more (c := c) hE h16
    rw [e1, e2, e3]
    rw [e4] at h
    have d3 := h.cell 3
    have f3 := h.frozen 3
    have hix := fun W => index_is ⟨(x :: r).toArray⟩ 0 0 x rfl rfl W
    have hex := cons_extract x r
    have hsz := size_of (x :: r)
    have hxr := xor_byte b x
    generalize ksn c k = m at h ⊢
    have B2 := Lib.hid (h.set_ 3 (.string ⟨r.toArray⟩))
    have O2 := (Off.refl g g w).setCell (q := ⟨g, 3, none⟩) (.inl rfl) (.string ⟨r.toArray⟩)
    obtain ⟨z, hz⟩ : ∃ z, b ^^^ x = z := ⟨_, rfl⟩
    rw [hz] at hxr ⊢
    rw [List.length_cons] at hsz
    generalize r.length = q at hex hsz
    clear hz e1 e2 e3 e4 hE h16 hk hn h
    go_enter Tryz.func33, Tryz.ntmps33
    go_wp2
    go_ret
    exact ⟨rfl, B2.out, O2⟩
end Go.Proofs.YtcecjoodlmpgnaaGreat
/- The contract of changed by a stream's xored: a text xor the stream. -/
namespace Go.Proofs.YtcecjoodlmpgnaaGreat
open Go.RowKit

theorem ksn_zero (c : Nat) (h : c < 4294967296) : ksn c 0 = c := by unfold ksn; omega
theorem ksr_zero (E : List UInt8 → List UInt8) (nonce : List UInt8) (c : Nat) : ksr E nonce c 0 = [] := rfl
set_option maxRecDepth 100000 in
set_option maxHeartbeats 4000000 in
theorem changed_any (key nonce t : List UInt8) (c g : Nat) (w : World) (hk : key.length = 16 ∨ key.length = 32) (hn : nonce.length = 12) (hc : c < 4294967296) (ht : t.length ≤ 80) (h : Blk w g 73 (kst key nonce c [])) :
    Calls Tryz.prog 31 #[.string ⟨t.toArray⟩, .func (.func 33) #[.pointer (some ⟨g, 0, none⟩)] #[]] w fun e w' => e = .returned (.string ⟨(ksx (encL key) nonce c t).toArray⟩) ∧ Off g g w w' := by
  have h0 : Blk w g 73 (kst key nonce (ksn c 0) (ksr (encL key) nonce c 0)) := by rw [ksn_zero c hc]; exact h
  have HX := Lib.hid (fun k b W (hW : Blk W g 73 (kst key nonce (ksn c k) (ksr (encL key) nonce c k))) => xored_any key nonce c k g b W hk hn hW)
  have HN := Lib.hid (ksx_len (E := encL key) (nonce := nonce) (c := c) t)
  have HU := Lib.hid (fun k (hk : k < t.length) => ub_ksx (E := encL key) (nonce := nonce) (c := c) hk)
  generalize ksx (encL key) nonce c t = N at HN HU ⊢
  obtain ⟨cap, wa, hcv, hart, hb0⟩ := bytes_conv t w
  obtain ⟨n, hnn⟩ : ∃ n, t.length = n := ⟨_, rfl⟩
  have HTL := Lib.hid hnn
  rw [hnn] at HN HU hcv ht
  have HART0 : Hid (ART wa w.heap.size (cutL 0 N t)) := Lib.hid (by rw [cutL_zero]; exact hart)
  have HB0 := Lib.hid (h0.below hb0)
  have HO0 := Lib.hid ((Off.refl g g w).below_mid hb0)
  have hg : w.heap.size ≠ g := by have := h.lt; omega
  have HG := Lib.hid hg
  clear hk hn hc h h0 hart hb0 hnn hg
  go_enter Tryz.func31, Tryz.ntmps31
  go_wp2_with fail
  clear hcv
  go_loopw [11] (fun iv wr => ∃ k : Nat, k ≤ n ∧ iv = .int .i64 k ∧ Hid (ART wr w.heap.size (cutL k N t)) ∧ Hid (Blk wr g 73 (kst key nonce (ksn c k) (ksr (encL key) nonce c k))) ∧ Hid (Off g g w wr)) (fun iv _ => n - (intOf iv).toNat)
  case atStart => exact ⟨0, Nat.zero_le _, rfl, HART0, HB0, HO0⟩
  case round =>
    clear HART0 HB0 HO0
    obtain ⟨k, hk, rfl, P, B, O⟩ := hrel
    by_cases hlt : k < n
    · have hkl : (k : Int) < (n : Int) := by omega
      have hat := P.out k (by rw [cutL_len HN.out HTL.out (by omega)]; exact hlt)
      rw [ub_cutL HN.out HTL.out (by omega) hlt, if_neg (Nat.lt_irrefl _)] at hat
      have hc := hat.1
      have HX1 := Lib.hid (HX.out k (ub t k) wr B.out)
      have HUK := Lib.hid (HU.out k hlt)
      rw [← HUK.out] at HX1
      generalize ub t k = x at hc HX1
      go_wp2_with fail
      refine HX1.out.mono ?_
      rintro e w1 ⟨rfl, B1, O1⟩
      have P1 : ART w1 w.heap.size (cutL k N t) := fun j hj => O1.at_ (P.out j hj) HG.out HG.out
      have hf := (P1 k (by rw [cutL_len HN.out HTL.out (by omega)]; exact hlt)).2
      have hc1 := (P1 k (by rw [cutL_len HN.out HTL.out (by omega)]; exact hlt)).1
      have P2 := Lib.hid (P1.set_ HN.out HTL.out hlt)
      have B2 := Lib.hid (B1.far (p := ⟨w.heap.size, k, none⟩) (fun e => HG.out e.symm) (uv (ub N k)))
      have O2 : Hid (Off g g w (w1.setCell ⟨w.heap.size, k, none⟩ (uv (ub N k)))) := Lib.hid (by
        have := O.out.trans O1
        exact ⟨this.os, this.tape, this.output, by simpa [World.setCell] using this.size, fun i hi hp hg => (Below.heap_setCell w1 ⟨w.heap.size, k, none⟩ _ i (by show i ≠ w.heap.size; omega)).trans (this.block i hi hp hg)⟩)
      generalize ub N k = y at P2 B2 O2 HX1 ⊢
      clear hat hc HX1 P1 B1 O1 P B O HUK
      go_wp2_with fail
      exact ⟨⟨k + 1, by omega, by go_num, P2, B2, O2⟩, by simp [intOf]; omega⟩
    · obtain rfl : k = n := by omega
      have hp := P.out
      rw [cutL_all HN.out HTL.out] at hp
      have hcv := hp.text (c := cap) HN.out
      clear hp P B
      go_wp2
      go_ret
      exact ⟨rfl, O.out⟩
end Go.Proofs.YtcecjoodlmpgnaaGreat
/- The contract of strings.Repeat of a byte 0. -/
namespace Go.Proofs.YtcecjoodlmpgnaaGreat
open Go.RowKit

theorem rep_zeros (n : Nat) : Lib.repeatL [0] n = List.replicate n 0 := by
  induction n with
  | zero => rfl
  | succ n ih => rw [Lib.repeatL, ih]; rfl
theorem rep_any (n : Nat) (w : World) (h : n ≤ 5000) : Calls Tryz.prog 44 #[.string ⟨#[0]⟩, .int .i64 (n : Int)] w fun e w' => e = .returned (.string ⟨(List.replicate n (0 : UInt8)).toArray⟩) ∧ Below w.heap.size w w' := by
  have := Go.Proofs.Any.strings_Repeat repLays105 repLaysExtra ⟨#[0]⟩ n w (by omega) (by rw [show (⟨#[0]⟩ : ByteArray).size = 1 from rfl, Nat.one_mul]; omega)
  rw [show (⟨#[0]⟩ : ByteArray).data.toList = [0] from rfl, rep_zeros] at this
  exact this
end Go.Proofs.YtcecjoodlmpgnaaGreat
/- The contracts of fit and tagOf. -/
namespace Go.Proofs.YtcecjoodlmpgnaaGreat
open Go.RowKit

/-- May a key and a nonce be? -/
def kfit (key nonce : List UInt8) : Bool := decide ((key.length = 16 ∨ key.length = 32) ∧ nonce.length = 12)
theorem kfit_yes {key nonce : List UInt8} (h : kfit key nonce = true) : (key.length = 16 ∨ key.length = 32) ∧ nonce.length = 12 := of_decide_eq_true h
set_option maxRecDepth 100000 in
set_option maxHeartbeats 2000000 in
theorem fit_any (key nonce : List UInt8) (w : World) : Calls Tryz.prog 30 #[.string ⟨key.toArray⟩, .string ⟨nonce.toArray⟩] w fun e w' => e = .returned (.bool (kfit key nonce)) ∧ w = w' := by
  have hsa := size_of key
  have hsb := size_of nonce
  unfold kfit
  obtain ⟨n, hn⟩ : ∃ n, key.length = n := ⟨_, rfl⟩
  obtain ⟨m, hm⟩ : ∃ m, nonce.length = m := ⟨_, rfl⟩
  rw [hn] at hsa ⊢
  rw [hm] at hsb ⊢
  clear hn hm
  by_cases h1 : n = 16
  · subst h1
    by_cases h2 : m = 12
    · subst h2
      go_enter Tryz.func30, Tryz.ntmps30
      go_wp2
      go_ret
      exact ⟨rfl, rfl⟩
    · have e2 : ((m : Int) == 12) = false := by simp; omega
      have e3 : decide ((16 = 16 ∨ 16 = 32) ∧ m = 12) = false := by simp [h2]
      rw [e3]
      clear e3
      go_enter Tryz.func30, Tryz.ntmps30
      go_wp2
      go_ret
      exact ⟨rfl, rfl⟩
  · have e1 : ((n : Int) == 16) = false := by simp; omega
    by_cases h3 : n = 32
    · subst h3
      by_cases h2 : m = 12
      · subst h2
        go_enter Tryz.func30, Tryz.ntmps30
        go_wp2
        go_ret
        exact ⟨rfl, rfl⟩
      · have e2 : ((m : Int) == 12) = false := by simp; omega
        have e3 : decide ((32 = 16 ∨ 32 = 32) ∧ m = 12) = false := by simp [h2]
        rw [e3]
        clear e3
        go_enter Tryz.func30, Tryz.ntmps30
        go_wp2
        go_ret
        exact ⟨rfl, rfl⟩
    · have e3 : ((n : Int) == 32) = false := by simp; omega
      have e4 : decide ((n = 16 ∨ n = 32) ∧ m = 12) = false := by simp [h1, h3]
      rw [e4]
      clear e4
      go_enter Tryz.func30, Tryz.ntmps30
      go_wp2
      go_ret
      exact ⟨rfl, rfl⟩

theorem gzeros_blk : gzeros.length = 16 := rfl
theorem off_below {g : Nat} {a w w' : World} (hb : Below a.heap.size a w) (h : Off g g w w') (hg : a.heap.size ≤ g) : Below a.heap.size a w' := hb.trans (h.below hg hg hb.size)
set_option maxRecDepth 100000 in
set_option maxHeartbeats 2000000 in
theorem tagOf_any (key nonce head t : List UInt8) (w : World) (hk : key.length = 16 ∨ key.length = 32) (hn : nonce.length = 12) (hh : head.length ≤ 80) (ht : t.length ≤ 80) :
    Calls Tryz.prog 34 #[.string ⟨key.toArray⟩, .string ⟨nonce.toArray⟩, .string ⟨head.toArray⟩, .string ⟨t.toArray⟩] w fun e w' => e = .returned (.string ⟨(tagL (encL key) nonce head t).toArray⟩) ∧ Below w.heap.size w w' := by
  have H1 := Lib.hid (fun W => rep_any 16 W (by omega))
  have H2 := Lib.hid (fun W => enc_yes key gzeros W hk gzeros_blk)
  have H3 := Lib.hid (fun W => sum_yes (encL key gzeros) head t W (encL_len _ _ gzeros_blk) hh ht)
  have H4 := Lib.hid (fun W => streamOf_any key nonce 1 W)
  have H5 := Lib.hid (fun g W hW => changed_any key nonce (sumL (encL key gzeros) head t) 1 g W hk hn (by omega) (by rw [sumL_len]; omega) hW)
  have HE : Hid (ksx (encL key) nonce 1 (sumL (encL key gzeros) head t) = tagL (encL key) nonce head t) := Lib.hid (by rw [ksx_is (encL_blk key nonce hn), sumL_len]; rfl)
  rw [HE.out] at H5
  rw [show (List.replicate 16 (0 : UInt8)) = gzeros from rfl] at H1
  generalize tagL (encL key) nonce head t = R at H5 ⊢
  generalize sumL (encL key gzeros) head t = S at H3 H5
  generalize encL key gzeros = Z at H2 H3
  generalize gzeros = G at H1 H2
  clear HE hk hn hh ht
  go_enter Tryz.func34, Tryz.ntmps34
  go_wp2_with fail
  refine (H1.out _).mono ?_
  rintro e w1 ⟨rfl, hb1⟩
  go_wp2_with fail
  refine (H2.out _).mono ?_
  rintro e w2 ⟨rfl, hb2⟩
  go_wp2_with fail
  refine (H3.out _).mono ?_
  rintro e w3 ⟨rfl, hb3⟩
  have hB3 := bt (bt hb1 hb2) hb3
  have z3 := hB3.size
  go_wp2_with fail
  refine (H4.out _).mono ?_
  rintro e w4 ⟨rfl, B4, hb4⟩
  have hB4 := bt hB3 hb4
  clear hb1 hb2 hb3 hb4
  go_wp2_with fail
  refine (H5.out _ _ B4).mono ?_
  rintro e w5 ⟨rfl, O5⟩
  have hB5 := off_below hB4 O5 z3
  go_wp2_with fail
  go_ret
  exact ⟨rfl, hB5⟩
end Go.Proofs.YtcecjoodlmpgnaaGreat
/- The contracts of Stream and Seal. -/
namespace Go.Proofs.YtcecjoodlmpgnaaGreat
open Go.RowKit

set_option maxRecDepth 100000 in
set_option maxHeartbeats 2000000 in
theorem seal_yes (key nonce head t : List UInt8) (w : World) (hf : kfit key nonce = true) (hh : head.length ≤ 80) (ht : t.length ≤ 80) :
    Calls Tryz.prog 20 #[.string ⟨key.toArray⟩, .string ⟨nonce.toArray⟩, .string ⟨head.toArray⟩, .string ⟨t.toArray⟩] w fun e w' => e = .returned (.tuple #[.string ⟨(sealL (encL key) nonce head t).toArray⟩, .int .i64 0]) ∧ Below w.heap.size w w' := by
  have H1 := Lib.hid (fun W => fit_any key nonce W)
  rw [hf] at H1
  obtain ⟨hk, hn12⟩ := kfit_yes hf
  have hC : ksx (encL key) nonce 2 t = ctL (encL key) nonce t := ksx_is (encL_blk key nonce hn12) t
  have H3 := Lib.hid (fun W => streamOf_any key nonce 2 W)
  have H4 := Lib.hid (fun g W hW => changed_any key nonce t 2 g W hk hn12 (by omega) ht hW)
  rw [hC] at H4
  have H5 := Lib.hid (fun W => tagOf_any key nonce head (ctL (encL key) nonce t) W hk hn12 hh (by rw [ctL_len]; exact ht))
  have HAD : Hid (∀ W : World, (Op.stringOp .add ⟨(ctL (encL key) nonce t).toArray⟩ ⟨(tagL (encL key) nonce head (ctL (encL key) nonce t)).toArray⟩).run Tryz.prog W = .ok (.string ⟨(sealL (encL key) nonce head t).toArray⟩) W) := Lib.hid fun W => run_string_add_lists (P := Tryz.prog) W _ _ (by rw [ctL_len]; omega) (by rw [tagL_len]; omega)
  generalize sealL (encL key) nonce head t = R at HAD ⊢
  generalize tagL (encL key) nonce head (ctL (encL key) nonce t) = T at H5 HAD
  generalize ctL (encL key) nonce t = C at H4 H5 HAD
  have hst := size_of t
  have hsh := size_of head
  obtain ⟨n, hn⟩ : ∃ n, t.length = n := ⟨_, rfl⟩
  obtain ⟨m, hm⟩ : ∃ m, head.length = m := ⟨_, rfl⟩
  rw [hn] at hst ht
  rw [hm] at hsh hh
  have n5 : (n : Int) ≤ 4096 := by omega
  have m5 : (m : Int) ≤ 4096 := by omega
  have had := fun W => HAD.out W
  clear hf hk hn12 hh ht hn hm hC HAD
  go_enter Tryz.func20, Tryz.ntmps20
  go_wp2_with fail
  refine (H1.out _).mono ?_
  rintro e w1 ⟨rfl, rfl⟩
  go_wp2_with fail
  refine (H3.out _).mono ?_
  rintro e w3 ⟨rfl, B3, hb3⟩
  go_wp2_with fail
  refine (H4.out _ _ B3).mono ?_
  rintro e w4 ⟨rfl, O4⟩
  have hB4 := off_below hb3 O4 (Nat.le_refl _)
  clear hb3 O4
  go_wp2_with fail
  refine (H5.out _).mono ?_
  rintro e w5 ⟨rfl, hb5⟩
  have hB5 := bt hB4 hb5
  go_wp2_with fail
  go_ret2
  exact ⟨rfl, hB5⟩

set_option maxRecDepth 100000 in
set_option maxHeartbeats 2000000 in
theorem seal_no (key nonce head t : List UInt8) (w : World) (h : ¬ (kfit key nonce = true ∧ head.length ≤ 4096 ∧ t.length ≤ 4096)) :
    Calls Tryz.prog 20 #[.string ⟨key.toArray⟩, .string ⟨nonce.toArray⟩, .string ⟨head.toArray⟩, .string ⟨t.toArray⟩] w fun e w' => e = .returned (.tuple #[.string ⟨#[]⟩, .int .i64 4]) ∧ Below w.heap.size w w' := by
  have H1 := Lib.hid (fun W => fit_any key nonce W)
  have hst := size_of t
  have hsh := size_of head
  obtain ⟨n, hn⟩ : ∃ n, t.length = n := ⟨_, rfl⟩
  obtain ⟨m, hm⟩ : ∃ m, head.length = m := ⟨_, rfl⟩
  rw [hn] at hst h
  rw [hm] at hsh h
  clear hn hm
  by_cases hf : kfit key nonce = true
  · rw [hf] at H1
    by_cases h0 : m ≤ 4096
    · have h5 : ¬ n ≤ 4096 := fun h5 => h ⟨hf, h0, h5⟩
      have h6 : (4096 : Int) < (n : Int) := by omega
      have h7 : (m : Int) ≤ 4096 := by omega
      clear h h5 h0 hf
      go_enter Tryz.func20, Tryz.ntmps20
      go_wp2_with fail
      refine (H1.out _).mono ?_
      rintro e w1 ⟨rfl, rfl⟩
      go_wp2_with fail
      go_ret2
      exact ⟨rfl, Below.refl _ _⟩
    · have h6 : (4096 : Int) < (m : Int) := by omega
      clear h h0 hf
      go_enter Tryz.func20, Tryz.ntmps20
      go_wp2_with fail
      refine (H1.out _).mono ?_
      rintro e w1 ⟨rfl, rfl⟩
      go_wp2_with fail
      go_ret2
      exact ⟨rfl, Below.refl _ _⟩
  · have hf' : kfit key nonce = false := by simpa using hf
    rw [hf'] at H1
    clear h hf hf'
    go_enter Tryz.func20, Tryz.ntmps20
    go_wp2_with fail
    refine (H1.out _).mono ?_
    rintro e w1 ⟨rfl, rfl⟩
    go_wp2_with fail
    go_ret2
    exact ⟨rfl, Below.refl _ _⟩
end Go.Proofs.YtcecjoodlmpgnaaGreat
/- The contract of Open. -/
namespace Go.Proofs.YtcecjoodlmpgnaaGreat
open Go.RowKit

theorem kextract (l : List UInt8) (a b : Nat) : (⟨l.toArray⟩ : ByteArray).extract a b = ⟨((l.take b).drop a).toArray⟩ := by
  apply ByteArray.ext
  apply Array.toList_inj.1
  rw [Lib.extract_data]
  simp [List.drop_take]
theorem kdrew {w w1 : World} (h : Below w.drew.heap.size w.drew w1) : Below w.heap.size w w1 := (Below.refl w.heap.size w).drew.trans h
/-- What Open tells. -/
def openR (o : Option (List UInt8)) : Value := .tuple #[.string ⟨(o.getD []).toArray⟩, .int .i64 (if o.isSome then 0 else 5)]
set_option maxRecDepth 100000 in
set_option maxHeartbeats 4000000 in
theorem open_yes (key nonce head s : List UInt8) (w : World) (hf : kfit key nonce = true) (hh : head.length ≤ 80) (h16 : 16 ≤ s.length) (hs : s.length ≤ 96) :
    Calls Tryz.prog 27 #[.string ⟨key.toArray⟩, .string ⟨nonce.toArray⟩, .string ⟨head.toArray⟩, .string ⟨s.toArray⟩] w fun e w' => e = .returned (openR (openL (encL key) nonce head s)) ∧ Below w.heap.size w w' := by
  have H1 := Lib.hid (fun W => fit_any key nonce W)
  rw [hf] at H1
  obtain ⟨hk, hn12⟩ := kfit_yes hf
  obtain ⟨n, hn⟩ : ∃ n, s.length = n + 16 := ⟨s.length - 16, by omega⟩
  have hn2 : s.length - 16 = n := by omega
  have htl : (s.take n).length = n := by rw [List.length_take]; omega
  have hC : ksx (encL key) nonce 2 (s.take n) = ctL (encL key) nonce (s.take n) := ksx_is (encL_blk key nonce hn12) _
  have H3 := Lib.hid (fun W => streamOf_any key nonce 2 W)
  have H4 := Lib.hid (fun g W hW => changed_any key nonce (s.take n) 2 g W hk hn12 (by omega) (by omega) hW)
  rw [hC] at H4
  have H5 := Lib.hid (fun W => tagOf_any key nonce head (s.take n) W hk hn12 hh (by omega))
  have hx1 := kextract s 0 n
  rw [List.drop_zero] at hx1
  have hx2 := kextract s n (n + 16)
  rw [List.take_of_length_le (by omega)] at hx2
  have hss := size_of s
  have hsh := size_of head
  rw [hn] at hss
  obtain ⟨q, hq⟩ : ∃ q, n + 16 = q := ⟨_, rfl⟩
  obtain ⟨m, hm⟩ : ∃ m, head.length = m := ⟨_, rfl⟩
  rw [hq] at hss hx2
  rw [hm] at hsh hh
  have m5 : (m : Int) ≤ 4096 := by omega
  have e1 : (q : Int) - 16 = (n : Int) := by omega
  have e2 : (q : Int) ≤ 4112 := by omega
  have e3 : (0 : Int) ≤ (n : Int) := by omega
  have e4 : n ≤ q := by omega
  have e5 : (n : Int) ≤ (q : Int) := by omega
  unfold openL
  rw [hn2]
  generalize ctL (encL key) nonce (s.take n) = C at H4 ⊢
  generalize tagL (encL key) nonce head (s.take n) = T at H5 ⊢
  generalize s.drop n = D at hx2 ⊢
  generalize s.take n = P at H4 H5 hx1
  clear hf hk hn12 hh h16 hs hn hn2 htl hC hq hm
  by_cases hTD : T = D
  · subst hTD
    rw [if_pos rfl]
    go_enter Tryz.func27, Tryz.ntmps27
    go_wp2_with fail
    refine (H1.out _).mono ?_
    rintro e w1 ⟨rfl, rfl⟩
    go_wp2_with fail
    go_region_held3 (fun _ => True) (trivial) (first | (go_at_call 34; refine (H5.out _).mono ?_; rintro e w5 ⟨rfl, hb5⟩))
    have z5 := kdrew hb5
    clear H5 H1
    go_wp2_with fail
    refine (H3.out _).mono ?_
    rintro e w6 ⟨rfl, B6, hb6⟩
    have hB6 := bt z5 hb6
    have z6 := z5.size
    clear z5 hb6
    go_wp2_with fail
    refine (H4.out _ _ B6).mono ?_
    rintro e w7 ⟨rfl, O7⟩
    have hB7 := off_below hB6 O7 z6
    go_wp2_with fail
    go_ret2
    exact ⟨rfl, hB7⟩
  · rw [if_neg hTD]
    have hne : (D == T) = false := beq_eq_false_iff_ne.2 (fun e => hTD e.symm)
    have hne2 : ¬ D = T := fun e => hTD e.symm
    clear hTD
    go_enter Tryz.func27, Tryz.ntmps27
    go_wp2_with fail
    refine (H1.out _).mono ?_
    rintro e w1 ⟨rfl, rfl⟩
    go_wp2_with fail
    go_region_held3 (fun _ => True) (trivial) (first | (go_at_call 34; refine (H5.out _).mono ?_; rintro e w5 ⟨rfl, hb5⟩))
    have z5 := kdrew hb5
    clear H5 H1
    go_wp2_with fail
    go_ret2
    exact ⟨rfl, z5⟩

set_option maxRecDepth 100000 in
set_option maxHeartbeats 2000000 in
theorem open_no (key nonce head s : List UInt8) (w : World) (hs : (s.length : Int) ≤ 9223372036854775807) (h : ¬ (kfit key nonce = true ∧ head.length ≤ 4096 ∧ 16 ≤ s.length ∧ s.length ≤ 4112)) :
    Calls Tryz.prog 27 #[.string ⟨key.toArray⟩, .string ⟨nonce.toArray⟩, .string ⟨head.toArray⟩, .string ⟨s.toArray⟩] w fun e w' => e = .returned (.tuple #[.string ⟨#[]⟩, .int .i64 4]) ∧ Below w.heap.size w w' := by
  have H1 := Lib.hid (fun W => fit_any key nonce W)
  have hst := size_of s
  have hsh := size_of head
  obtain ⟨n, hn⟩ : ∃ n, s.length = n := ⟨_, rfl⟩
  obtain ⟨m, hm⟩ : ∃ m, head.length = m := ⟨_, rfl⟩
  rw [hn] at hst h hs
  rw [hm] at hsh h
  clear hn hm
  have hw : ∀ i : Int, -9223372036854775808 ≤ i → i ≤ 9223372036854775807 → True := fun _ _ _ => trivial
  clear hw
  by_cases hf : kfit key nonce = true
  · rw [hf] at H1
    by_cases h0 : m ≤ 4096
    · have h7 : (m : Int) ≤ 4096 := by omega
      by_cases h1 : 16 ≤ n
      · have h5 : ¬ n ≤ 4112 := fun h5 => h ⟨hf, h0, h1, h5⟩
        have h6 : (4112 : Int) < (n : Int) := by omega
        have h8 : (0 : Int) ≤ (n : Int) - 16 := by omega
        clear h h5 h0 hf
        go_enter Tryz.func27, Tryz.ntmps27
        go_wp2_with fail
        refine (H1.out _).mono ?_
        rintro e w1 ⟨rfl, rfl⟩
        go_wp2_with fail
        go_ret2
        exact ⟨rfl, Below.refl _ _⟩
      · have h8 : (n : Int) - 16 < 0 := by omega
        clear h h0 hf
        go_enter Tryz.func27, Tryz.ntmps27
        go_wp2_with fail
        refine (H1.out _).mono ?_
        rintro e w1 ⟨rfl, rfl⟩
        go_wp2_with fail
        go_ret2
        exact ⟨rfl, Below.refl _ _⟩
    · have h6 : (4096 : Int) < (m : Int) := by omega
      clear h h0 hf
      go_enter Tryz.func27, Tryz.ntmps27
      go_wp2_with fail
      refine (H1.out _).mono ?_
      rintro e w1 ⟨rfl, rfl⟩
      go_wp2_with fail
      go_ret2
      exact ⟨rfl, Below.refl _ _⟩
  · have hf' : kfit key nonce = false := by simpa using hf
    rw [hf'] at H1
    clear h hf hf'
    go_enter Tryz.func27, Tryz.ntmps27
    go_wp2_with fail
    refine (H1.out _).mono ?_
    rintro e w1 ⟨rfl, rfl⟩
    go_wp2_with fail
    go_ret2
    exact ⟨rfl, Below.refl _ _⟩
end Go.Proofs.YtcecjoodlmpgnaaGreat
