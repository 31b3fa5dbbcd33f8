/- Texts of this seat, one behind the other: KFill, KXored, KChange, MRep, KRep, KTag, KSeal, GcmA, KLaw. -/
import Derived.Shelf.Strings.Repeat
import Derived.Test.YtnifgfnocdffcaaRows
import Derived.Test.YtnifgfnocdffcaaQ01
import Derived.Test.YtnifgfnocdffcaaQ06
import Derived.Test.YtnifgfnocdffcaaQ08
import Derived.Test.YtnifgfnocdffcaaQ13
/- The contracts of streamOf and fill. -/
namespace Go.Proofs.Ytnifgfnocdffcaa
open Go.RowKit

/-- A stream in memory: its next block's number, and what is left of its block. -/
abbrev kst (key nonce : List UInt8) (n : Nat) (R : List UInt8) : Array Value := #[.string ⟨key.toArray⟩, .string ⟨nonce.toArray⟩, .int .u32 (n : Int), .string ⟨R.toArray⟩]
set_option maxRecDepth 100000 in
set_option maxHeartbeats 2000000 in
theorem streamOf_any (key nonce : List UInt8) (c : Nat) (w : World) : Calls Try.prog 20 #[.string ⟨key.toArray⟩, .string ⟨nonce.toArray⟩, .int .u32 (c : Int)] w fun e w' => e = .returned (.pointer (some ⟨w.heap.size, 0, none⟩)) ∧ Blk w' w.heap.size 71 (kst key nonce c []) ∧ Below w.heap.size w w' := by
  go_enter Try.func20, Try.ntmps20
  go_wp2
  go_ret
  exact ⟨rfl, Blk.new _ _ _, ba (Below.refl _ _) _⟩

set_option maxRecDepth 100000 in
set_option maxHeartbeats 4000000 in
theorem fill_any (key nonce R : List UInt8) (n g : Nat) (w : World) (hk : key.length = 16 ∨ key.length = 32) (hn : nonce.length = 12) (hn32 : n < 4294967296) (h : Blk w g 71 (kst key nonce n R)) :
    Calls Try.prog 41 #[.pointer (some ⟨g, 0, none⟩)] w fun e w' => e = .returned (.tuple #[]) ∧ Blk w' g 71 (kst key nonce ((n + 1) % 4294967296) (encL key (nonce ++ be4 n))) ∧ Off g g w w' := by
  have HT := Lib.hid (fun W => ktold_any n W hn32)
  have HE := Lib.hid (fun W => enc_yes key (nonce ++ be4 n) W hk (by rw [List.length_append, hn, be4_len]))
  have HAD : Hid (∀ W : World, (Op.stringOp .add ⟨nonce.toArray⟩ ⟨(be4 n).toArray⟩).run Try.prog W = .ok (.string ⟨(nonce ++ be4 n).toArray⟩) W) := Lib.hid fun W => run_string_add_lists (P := Try.prog) W _ _ (by omega) (by rw [be4_len]; omega)
  generalize encL key (nonce ++ be4 n) = E at HE ⊢
  generalize nonce ++ be4 n = NB at HE HAD
  generalize be4 n = B at HT HAD
  obtain ⟨m, hm⟩ : ∃ m, (n + 1) % 4294967296 = m := ⟨_, rfl⟩
  have hwr : ((n : Int) + 1) % 4294967296 = (m : Int) := by omega
  rw [hm]
  clear hk hn hm
  go_enter Try.func41, Try.ntmps41
  --R
  go_wp2_with fail
  have hbD := Blk.drew h
  have hS0 : (fun W : World => W.cell? ⟨g, 0, none⟩ = some (.string ⟨key.toArray⟩) ∧ W.cell? ⟨g, 1, none⟩ = some (.string ⟨nonce.toArray⟩) ∧ W.cell? ⟨g, 2, none⟩ = some (.int .u32 (n : Int))) w.drew := ⟨hbD.cell 0, hbD.cell 1, hbD.cell 2⟩
  refine wp_region_held_drew (S := fun W => W.cell? ⟨g, 0, none⟩ = some (.string ⟨key.toArray⟩) ∧ W.cell? ⟨g, 1, none⟩ = some (.string ⟨nonce.toArray⟩) ∧ W.cell? ⟨g, 2, none⟩ = some (.int .u32 (n : Int))) (by kernel_rfl) hS0 (fun hHeld => ?_)
  clear hS0
  refine wpAnyH_take (i := 0) (oi := ⟨some 3, _, _, _, _, _⟩) (v := ?_) rfl (by kernel_rfl) (by kernel_rfl) (by kernel_rfl) (fun _ _ _ h => h) (Or.inl ⟨by rfl, ?_⟩) (by assumption) ?_
  rotate_left
  · (intro w9 hSw; (try dsimp only at hSw); go_simp; try with_reducible rfl)
  try simp only [Act.put, List.setIfInBounds_toArray, List.set_cons_zero, List.set_cons_succ]
  refine wpAnyH_take (i := 1) (oi := ⟨some 4, _, _, _, _, _⟩) (v := ?_) rfl (by kernel_rfl) (by kernel_rfl) (by kernel_rfl) (fun _ _ _ h => h) (Or.inl ⟨by rfl, ?_⟩) (by assumption) ?_
  rotate_left
  · (intro w9 hSw; (try dsimp only at hSw); go_simp; try with_reducible rfl)
  try simp only [Act.put, List.setIfInBounds_toArray, List.set_cons_zero, List.set_cons_succ]
  refine wpAnyH_take (i := 2) (oi := ⟨some 5, _, _, _, _, _⟩) (v := ?_) rfl (by kernel_rfl) (by kernel_rfl) (by kernel_rfl) (fun _ _ _ h => h) (Or.inl ⟨by rfl, ?_⟩) (by assumption) ?_
  rotate_left
  · (intro w9 hSw; (try dsimp only at hSw); go_simp; try with_reducible rfl)
  try simp only [Act.put, List.setIfInBounds_toArray, List.set_cons_zero, List.set_cons_succ]
  refine wpAnyH_take (i := 3) (oi := ⟨some 6, _, _, _, _, _⟩) (v := ?_) rfl (by kernel_rfl) (by kernel_rfl) (by kernel_rfl) (fun _ _ _ h => h) (Or.inl ⟨by rfl, ?_⟩) (by assumption) ?_
  rotate_left
  · (intro w9 hSw; (try dsimp only at hSw); go_simp; try with_reducible rfl)
  try simp only [Act.put, List.setIfInBounds_toArray, List.set_cons_zero, List.set_cons_succ]
  refine wpAnyH_take (i := 4) (oi := ⟨some 7, _, _, _, _, _⟩) (v := .string ⟨key.toArray⟩) rfl (by kernel_rfl) (by kernel_rfl) (by kernel_rfl) (fun _ _ _ h => h) (Or.inl ⟨by rfl, ?_⟩) (by assumption) ?_
  · (intro w9 hSw; have f0 := hSw.1; clear hSw; (try dsimp only at hSw); go_simp)
  try simp only [Act.put, List.setIfInBounds_toArray, List.set_cons_zero, List.set_cons_succ]
  refine wpAnyH_take (i := 5) (oi := ⟨some 8, _, _, _, _, _⟩) (v := ?_) rfl (by kernel_rfl) (by kernel_rfl) (by kernel_rfl) (fun _ _ _ h => h) (Or.inl ⟨by rfl, ?_⟩) (by assumption) ?_
  rotate_left
  · (intro w9 hSw; (try dsimp only at hSw); go_simp; try with_reducible rfl)
  try simp only [Act.put, List.setIfInBounds_toArray, List.set_cons_zero, List.set_cons_succ]
  refine wpAnyH_take (i := 6) (oi := ⟨some 9, _, _, _, _, _⟩) (v := ?_) rfl (by kernel_rfl) (by kernel_rfl) (by kernel_rfl) (fun _ _ _ h => h) (Or.inl ⟨by rfl, ?_⟩) (by assumption) ?_
  rotate_left
  · (intro w9 hSw; (try dsimp only at hSw); go_simp; try with_reducible rfl)
  try simp only [Act.put, List.setIfInBounds_toArray, List.set_cons_zero, List.set_cons_succ]
  refine wpAnyH_take (i := 7) (oi := ⟨some 10, _, _, _, _, _⟩) (v := ?_) rfl (by kernel_rfl) (by kernel_rfl) (by kernel_rfl) (fun _ _ _ h => h) (Or.inl ⟨by rfl, ?_⟩) (by assumption) ?_
  rotate_left
  · (intro w9 hSw; (try dsimp only at hSw); go_simp; try with_reducible rfl)
  try simp only [Act.put, List.setIfInBounds_toArray, List.set_cons_zero, List.set_cons_succ]
  refine wpAnyH_take (i := 8) (oi := ⟨some 11, _, _, _, _, _⟩) (v := .string ⟨nonce.toArray⟩) rfl (by kernel_rfl) (by kernel_rfl) (by kernel_rfl) (fun _ _ _ h => h) (Or.inl ⟨by rfl, ?_⟩) (by assumption) ?_
  · (intro w9 hSw; have f0 := hSw.2.1; clear hSw; (try dsimp only at hSw); go_simp)
  try simp only [Act.put, List.setIfInBounds_toArray, List.set_cons_zero, List.set_cons_succ]
  refine wpAnyH_take (i := 9) (oi := ⟨some 12, _, _, _, _, _⟩) (v := ?_) rfl (by kernel_rfl) (by kernel_rfl) (by kernel_rfl) (fun _ _ _ h => h) (Or.inl ⟨by rfl, ?_⟩) (by assumption) ?_
  rotate_left
  · (intro w9 hSw; (try dsimp only at hSw); go_simp; try with_reducible rfl)
  try simp only [Act.put, List.setIfInBounds_toArray, List.set_cons_zero, List.set_cons_succ]
  refine wpAnyH_take (i := 10) (oi := ⟨some 13, _, _, _, _, _⟩) (v := ?_) rfl (by kernel_rfl) (by kernel_rfl) (by kernel_rfl) (fun _ _ _ h => h) (Or.inl ⟨by rfl, ?_⟩) (by assumption) ?_
  rotate_left
  · (intro w9 hSw; (try dsimp only at hSw); go_simp; try with_reducible rfl)
  try simp only [Act.put, List.setIfInBounds_toArray, List.set_cons_zero, List.set_cons_succ]
  refine wpAnyH_take (i := 11) (oi := ⟨some 14, _, _, _, _, _⟩) (v := ?_) rfl (by kernel_rfl) (by kernel_rfl) (by kernel_rfl) (fun _ _ _ h => h) (Or.inl ⟨by rfl, ?_⟩) (by assumption) ?_
  rotate_left
  · (intro w9 hSw; (try dsimp only at hSw); go_simp; try with_reducible rfl)
  try simp only [Act.put, List.setIfInBounds_toArray, List.set_cons_zero, List.set_cons_succ]
  refine wpAnyH_take (i := 12) (oi := ⟨some 15, _, _, _, _, _⟩) (v := .int .u32 (n : Int)) rfl (by kernel_rfl) (by kernel_rfl) (by kernel_rfl) (fun _ _ _ h => h) (Or.inl ⟨by rfl, ?_⟩) (by assumption) ?_
  · (intro w9 hSw; have f0 := hSw.2.2; clear hSw; (try dsimp only at hSw); go_simp)
  try simp only [Act.put, List.setIfInBounds_toArray, List.set_cons_zero, List.set_cons_succ]
  refine wpAnyH_ready (rs := [13]) (by kernel_rfl) (by simp) ?_
  refine AllReadyH.cons (o := ⟨some 16, _, _, _, _, _⟩) rfl (fun K9 hK9 => ?_) AllReadyH.nil
  go_simp; go_at_call 60
  refine (HT.out _).mono ?_
  rintro e w1 ⟨rfl, hb1⟩
  have B1 := Lib.hid (hbD.below hb1)
  refine hK9.out _ _ ?_ (fun hHeld => ?_)
  · exact ⟨B1.out.cell 0, B1.out.cell 1, B1.out.cell 2⟩
  clear hK9 K9
  try simp only [Act.put, List.setIfInBounds_toArray, List.set_cons_zero, List.set_cons_succ]
  refine wpAnyH_take (i := 14) (oi := ⟨some 17, _, _, _, _, _⟩) (v := .string ⟨NB.toArray⟩) rfl (by kernel_rfl) (by kernel_rfl) (by kernel_rfl) (fun _ _ _ h => h) (Or.inl ⟨by rfl, ?_⟩) (by assumption) ?_
  · (intro w9 hSw; have f0 := HAD.out w9; clear hSw; (try dsimp only at hSw); go_simp)
  try simp only [Act.put, List.setIfInBounds_toArray, List.set_cons_zero, List.set_cons_succ]
  refine wpAnyH_ready (rs := [15]) (by kernel_rfl) (by simp) ?_
  refine AllReadyH.cons (o := ⟨some 18, _, _, _, _, _⟩) rfl (fun K9 hK9 => ?_) AllReadyH.nil
  go_simp; go_at_call 17
  refine (HE.out _).mono ?_
  rintro e w2 ⟨rfl, hb2⟩
  have B2 := Lib.hid (B1.out.below hb2)
  refine hK9.out _ _ ?_ (fun hHeld => ?_)
  · exact ⟨B2.out.cell 0, B2.out.cell 1, B2.out.cell 2⟩
  clear hK9 K9
  try simp only [Act.put, List.setIfInBounds_toArray, List.set_cons_zero, List.set_cons_succ]
  refine wpAnyH_take (i := 16) (oi := ⟨some 2, _, _, _, _, _⟩) (v := ?_) rfl (by kernel_rfl) (by kernel_rfl) (by kernel_rfl) (fun _ _ _ h => h) (Or.inl ⟨by rfl, ?_⟩) (by assumption) ?_
  rotate_left
  · (intro w9 hSw; (try dsimp only at hSw); go_simp; try with_reducible rfl)
  try simp only [Act.put, List.setIfInBounds_toArray, List.set_cons_zero, List.set_cons_succ]
  refine wpAnyH_take (i := 17) (oi := ⟨some 19, _, _, _, _, _⟩) (v := ?_) rfl (by kernel_rfl) (by kernel_rfl) (by kernel_rfl) (fun _ _ _ h => h) (Or.inl ⟨by rfl, ?_⟩) (by assumption) ?_
  rotate_left
  · (intro w9 hSw; (try dsimp only at hSw); go_simp; try with_reducible rfl)
  try simp only [Act.put, List.setIfInBounds_toArray, List.set_cons_zero, List.set_cons_succ]
  refine wpAnyH_take (i := 18) (oi := ⟨some 20, _, _, _, _, _⟩) (v := ?_) rfl (by kernel_rfl) (by kernel_rfl) (by kernel_rfl) (fun _ _ _ h => h) (Or.inl ⟨by rfl, ?_⟩) (by assumption) ?_
  rotate_left
  · (intro w9 hSw; (try dsimp only at hSw); go_simp; try with_reducible rfl)
  try simp only [Act.put, List.setIfInBounds_toArray, List.set_cons_zero, List.set_cons_succ]
  refine wpAnyH_take (i := 19) (oi := ⟨some 21, _, _, _, _, _⟩) (v := ?_) rfl (by kernel_rfl) (by kernel_rfl) (by kernel_rfl) (fun _ _ _ h => h) (Or.inl ⟨by rfl, ?_⟩) (by assumption) ?_
  rotate_left
  · (intro w9 hSw; (try dsimp only at hSw); go_simp; try with_reducible rfl)
  try simp only [Act.put, List.setIfInBounds_toArray, List.set_cons_zero, List.set_cons_succ]
  refine wpAnyH_take (i := 20) (oi := ⟨some 22, _, _, _, _, _⟩) (v := ?_) rfl (by kernel_rfl) (by kernel_rfl) (by kernel_rfl) (fun _ _ _ h => h) (Or.inl ⟨by rfl, ?_⟩) (by assumption) ?_
  rotate_left
  · (intro w9 hSw; (try dsimp only at hSw); go_simp; try with_reducible rfl)
  try simp only [Act.put, List.setIfInBounds_toArray, List.set_cons_zero, List.set_cons_succ]
  refine wpAnyH_ready (rs := [21]) (by kernel_rfl) (by simp) ?_
  refine AllReadyH.cons (o := ⟨none, _, _, _, _, _⟩) rfl (fun K9 hK9 => ?_) AllReadyH.nil
  have c3 := B2.out.cell 3; have z3 := B2.out.frozen 3; have B3 := Lib.hid (B2.out.set_ 3 (.string ⟨E.toArray⟩))
  go_simp
  refine hK9.out _ _ ?_ (fun hHeld => ?_)
  · exact ⟨B3.out.cell 0, B3.out.cell 1, B3.out.cell 2⟩
  clear hK9 K9
  try simp only [Act.put]
  refine wpAnyH_done (by kernel_rfl) ?_ _
  generalize hw3 : w2.setCell ⟨g, 3, none⟩ (.string ⟨E.toArray⟩) = w3 at B3 ⊢
  have O3 : Off g g w w3 := by
    rw [← hw3]
    exact (((Off.refl g g w).drew.below_mid hb1).below_mid hb2).setCell (.inl rfl) _
  have C3 : Hid (Blk w3 g 71 (kst key nonce n E)) := B3
  have c2 := C3.out.cell 2
  have f2 := C3.out.frozen 2
  have K4 := Lib.hid (C3.out.set_ 2 (.int .u32 (m : Int)))
  have O4 := O3.setCell (q := ⟨g, 2, none⟩) (.inl rfl) (.int .u32 (m : Int))
  clear hw3 hb1 hb2 B1 B2 B3 hbD h HT HE HAD O3 C3
  go_wp2_with fail
  go_end0
  exact ⟨rfl, K4.out, O4⟩
end Go.Proofs.Ytnifgfnocdffcaa
/- The contract of xored: a byte xor the stream's next. -/
namespace Go.Proofs.Ytnifgfnocdffcaa
open Go.RowKit

theorem encL_blk (key nonce : List UInt8) (hn : nonce.length = 12) : ∀ i, (encL key (nonce ++ be4 i)).length = 16 := fun i => encL_len key _ (by rw [List.length_append, hn, be4_len])
theorem ksn_lt (c k : Nat) : ksn c k < 4294967296 := Nat.mod_lt _ (by decide)
theorem cons_extract (b : UInt8) (r : List UInt8) : (⟨(b :: r).toArray⟩ : ByteArray).extract 1 (r.length + 1) = ⟨r.toArray⟩ := by
  apply ByteArray.ext
  apply Array.toList_inj.1
  rw [Lib.extract_data]
  simp
set_option maxRecDepth 100000 in
set_option maxHeartbeats 4000000 in
theorem xored_any (key nonce : List UInt8) (c k g : Nat) (b : UInt8) (w : World) (hk : key.length = 16 ∨ key.length = 32) (hn : nonce.length = 12) (h : Blk w g 71 (kst key nonce (ksn c k) (ksr (encL key) nonce c k))) :
    Calls Try.prog 21 #[.pointer (some ⟨g, 0, none⟩), .int .u8 (b.toNat : Int)] w fun e w' => e = .returned (.int .u8 ((b ^^^ ksb (encL key) nonce c k).toNat : Int)) ∧ Blk w' g 71 (kst key nonce (ksn c (k + 1)) (ksr (encL key) nonce c (k + 1))) ∧ Off g g w w' := by
  have hE := encL_blk key nonce hn
  by_cases h16 : k % 16 = 0
  · obtain ⟨x, r, he⟩ : ∃ x r, encL key (nonce ++ be4 (c + k / 16)) = x :: r := by
      have := hE (c + k / 16)
      cases hh : encL key (nonce ++ be4 (c + k / 16)) with
      | nil => rw [hh] at this; cases this
      | cons x r => exact ⟨x, r, rfl⟩
    have hrl : r.length = 15 := by have := hE (c + k / 16); rw [he] at this; simpa using this
    obtain ⟨e1, e2, e3, e4, e5⟩ := ksr_first h16 x r he
    rw [e1, e2, e3]
    rw [e4] at h
    have HF := Lib.hid (fill_any key nonce [] (ksn c k) g w hk hn (ksn_lt _ _) h)
    rw [e5, he] at HF
    have c3 := h.cell 3
    have hix := fun W => index_is ⟨(x :: r).toArray⟩ 0 0 x rfl rfl W
    have hex := cons_extract x r
    have hsz := size_of (x :: r)
    have hxr := xor_byte b x
    generalize (ksn c k + 1) % 4294967296 = m at HF ⊢
    rw [hrl] at hex
    rw [List.length_cons, hrl] at hsz
    obtain ⟨z, hz⟩ : ∃ z, b ^^^ x = z := ⟨_, rfl⟩
    rw [hz] at hxr ⊢
    generalize (x :: r) = L at HF hix hex hsz
    clear hz he hrl e1 e2 e3 e4 e5 hE h16 hk hn
    go_enter Try.func21, Try.ntmps21
    go_wp2_with fail
    refine HF.out.mono ?_
    rintro e w1 ⟨rfl, B1, O1⟩
    have d3 := B1.cell 3
    have f3 := B1.frozen 3
    have B2 := Lib.hid (B1.set_ 3 (.string ⟨r.toArray⟩))
    have O2 := O1.setCell (q := ⟨g, 3, none⟩) (.inl rfl) (.string ⟨r.toArray⟩)
    clear c3 HF B1 O1 h
    go_wp2
    go_ret
    exact ⟨rfl, B2.out, O2⟩
  · obtain ⟨x, r, e4, e1, e2, e3⟩ := ksr_more (c := c) hE h16
    rw [e1, e2, e3]
    rw [e4] at h
    have d3 := h.cell 3
    have f3 := h.frozen 3
    have hix := fun W => index_is ⟨(x :: r).toArray⟩ 0 0 x rfl rfl W
    have hex := cons_extract x r
    have hsz := size_of (x :: r)
    have hxr := xor_byte b x
    generalize ksn c k = m at h ⊢
    have B2 := Lib.hid (h.set_ 3 (.string ⟨r.toArray⟩))
    have O2 := (Off.refl g g w).setCell (q := ⟨g, 3, none⟩) (.inl rfl) (.string ⟨r.toArray⟩)
    obtain ⟨z, hz⟩ : ∃ z, b ^^^ x = z := ⟨_, rfl⟩
    rw [hz] at hxr ⊢
    rw [List.length_cons] at hsz
    generalize r.length = q at hex hsz
    clear hz e1 e2 e3 e4 hE h16 hk hn h
    go_enter Try.func21, Try.ntmps21
    go_wp2
    go_ret
    exact ⟨rfl, B2.out, O2⟩
end Go.Proofs.Ytnifgfnocdffcaa
/- The contract of changed by a stream's xored: a text xor the stream. -/
namespace Go.Proofs.Ytnifgfnocdffcaa
open Go.RowKit

theorem ksn_zero (c : Nat) (h : c < 4294967296) : ksn c 0 = c := by unfold ksn; omega
theorem ksr_zero (E : List UInt8 → List UInt8) (nonce : List UInt8) (c : Nat) : ksr E nonce c 0 = [] := rfl
set_option maxRecDepth 100000 in
set_option maxHeartbeats 4000000 in
theorem changed_any (key nonce t : List UInt8) (c g : Nat) (w : World) (hk : key.length = 16 ∨ key.length = 32) (hn : nonce.length = 12) (hc : c < 4294967296) (ht : t.length ≤ 80) (h : Blk w g 71 (kst key nonce c [])) :
    Calls Try.prog 19 #[.string ⟨t.toArray⟩, .func (.func 21) #[.pointer (some ⟨g, 0, none⟩)] #[]] w fun e w' => e = .returned (.string ⟨(ksx (encL key) nonce c t).toArray⟩) ∧ Off g g w w' := by
  have h0 : Blk w g 71 (kst key nonce (ksn c 0) (ksr (encL key) nonce c 0)) := by rw [ksn_zero c hc]; exact h
  have HX := Lib.hid (fun k b W (hW : Blk W g 71 (kst key nonce (ksn c k) (ksr (encL key) nonce c k))) => xored_any key nonce c k g b W hk hn hW)
  have HN := Lib.hid (ksx_len (E := encL key) (nonce := nonce) (c := c) t)
  have HU := Lib.hid (fun k (hk : k < t.length) => ub_ksx (E := encL key) (nonce := nonce) (c := c) hk)
  generalize ksx (encL key) nonce c t = N at HN HU ⊢
  obtain ⟨cap, wa, hcv, hart, hb0⟩ := bytes_conv t w
  obtain ⟨n, hnn⟩ : ∃ n, t.length = n := ⟨_, rfl⟩
  have HTL := Lib.hid hnn
  rw [hnn] at HN HU hcv ht
  have HART0 : Hid (ART wa w.heap.size (cutL 0 N t)) := Lib.hid (by rw [cutL_zero]; exact hart)
  have HB0 := Lib.hid (h0.below hb0)
  have HO0 := Lib.hid ((Off.refl g g w).below_mid hb0)
  have hg : w.heap.size ≠ g := by have := h.lt; omega
  have HG := Lib.hid hg
  clear hk hn hc h h0 hart hb0 hnn hg
  go_enter Try.func19, Try.ntmps19
  go_wp2_with fail
  clear hcv
  go_loopw [11] (fun iv wr => ∃ k : Nat, k ≤ n ∧ iv = .int .i64 k ∧ Hid (ART wr w.heap.size (cutL k N t)) ∧ Hid (Blk wr g 71 (kst key nonce (ksn c k) (ksr (encL key) nonce c k))) ∧ Hid (Off g g w wr)) (fun iv _ => n - (intOf iv).toNat)
  case atStart => exact ⟨0, Nat.zero_le _, rfl, HART0, HB0, HO0⟩
  case round =>
    clear HART0 HB0 HO0
    obtain ⟨k, hk, rfl, P, B, O⟩ := hrel
    by_cases hlt : k < n
    · have hkl : (k : Int) < (n : Int) := by omega
      have hat := P.out k (by rw [cutL_len HN.out HTL.out (by omega)]; exact hlt)
      rw [ub_cutL HN.out HTL.out (by omega) hlt, if_neg (Nat.lt_irrefl _)] at hat
      have hc := hat.1
      have HX1 := Lib.hid (HX.out k (ub t k) wr B.out)
      have HUK := Lib.hid (HU.out k hlt)
      rw [← HUK.out] at HX1
      generalize ub t k = x at hc HX1
      go_wp2_with fail
      refine HX1.out.mono ?_
      rintro e w1 ⟨rfl, B1, O1⟩
      have P1 : ART w1 w.heap.size (cutL k N t) := fun j hj => O1.at_ (P.out j hj) HG.out HG.out
      have hf := (P1 k (by rw [cutL_len HN.out HTL.out (by omega)]; exact hlt)).2
      have hc1 := (P1 k (by rw [cutL_len HN.out HTL.out (by omega)]; exact hlt)).1
      have P2 := Lib.hid (P1.set_ HN.out HTL.out hlt)
      have B2 := Lib.hid (B1.far (p := ⟨w.heap.size, k, none⟩) (fun e => HG.out e.symm) (uv (ub N k)))
      have O2 : Hid (Off g g w (w1.setCell ⟨w.heap.size, k, none⟩ (uv (ub N k)))) := Lib.hid (by
        have := O.out.trans O1
        exact ⟨this.os, this.tape, this.output, by simpa [World.setCell] using this.size, fun i hi hp hg => (Below.heap_setCell w1 ⟨w.heap.size, k, none⟩ _ i (by show i ≠ w.heap.size; omega)).trans (this.block i hi hp hg)⟩)
      generalize ub N k = y at P2 B2 O2 HX1 ⊢
      clear hat hc HX1 P1 B1 O1 P B O HUK
      go_wp2_with fail
      exact ⟨⟨k + 1, by omega, by go_num, P2, B2, O2⟩, by simp [intOf]; omega⟩
    · obtain rfl : k = n := by omega
      have hp := P.out
      rw [cutL_all HN.out HTL.out] at hp
      have hcv := hp.text (c := cap) HN.out
      clear hp P B
      go_wp2
      go_ret
      exact ⟨rfl, O.out⟩
end Go.Proofs.Ytnifgfnocdffcaa
/- repRen: the numbers under which the library's contracts find it. -/
namespace Go.Proofs.Ytnifgfnocdffcaa
open Go.Shelf Go.RowKit
def repRen : Go.Shelf.Ren := ⟨fun | 99 => 29 | 105 => 16 | 165 => 30 | 166 => 31 | 169 => 33 | 170 => 32 | 206 => 51 | 212 => 28 | 240 => 52 | 241 => 53 | 263 => 49 | 264 => 50 | 276 => 74 | 277 => 75 | n => n, fun | 0 => 0 | 3 => 3 | 4 => 4 | 5 => 5 | 9 => 9 | 20 => 20 | 37 => 37 | 46 => 48 | 51 => 22 | 53 => 78 | 70 => 51 | 72 => 53 | 75 => 56 | 76 => 57 | 80 => 60 | 109 => 49 | 127 => 81 | 146 => 76 | 148 => 79 | 164 => 103 | n => n, fun | n => n⟩
theorem repLays105 : Go.Proofs.Lays.n105 Try.prog repRen := {
  mixed := by kernel_rfl
  f99 := Try.func29.trans (congrArg some (by kernel_rfl))
  f105 := Try.func16.trans (congrArg some (by kernel_rfl))
  f165 := Try.func30.trans (congrArg some (by kernel_rfl))
  f166 := Try.func31.trans (congrArg some (by kernel_rfl))
  f169 := Try.func33.trans (congrArg some (by kernel_rfl))
  f170 := Try.func32.trans (congrArg some (by kernel_rfl))
  f206 := Try.func51.trans (congrArg some (by kernel_rfl))
  f212 := Try.func28.trans (congrArg some (by kernel_rfl))
  f240 := Try.func52.trans (congrArg some (by kernel_rfl))
  f241 := Try.func53.trans (congrArg some (by kernel_rfl))
  f263 := Try.func49.trans (congrArg some (by kernel_rfl))
  f264 := Try.func50.trans (congrArg some (by kernel_rfl))
  f276 := Try.func74.trans (congrArg some (by kernel_rfl))
  f277 := Try.func75.trans (congrArg some (by kernel_rfl))
  t0 := Try.underlying0
  a0 := Try.isAgg0
  z0 := Try.sizeOf0
  v0 := Try.zeroValue0
  t3 := Try.underlying3
  a3 := Try.isAgg3
  z3 := Try.sizeOf3
  v3 := Try.zeroValue3
  t4 := Try.underlying4
  a4 := Try.isAgg4
  z4 := Try.sizeOf4
  v4 := Try.zeroValue4
  t5 := Try.underlying5
  a5 := Try.isAgg5
  z5 := Try.sizeOf5
  v5 := Try.zeroValue5
  t9 := Try.underlying9
  a9 := Try.isAgg9
  z9 := Try.sizeOf9
  v9 := Try.zeroValue9
  t20 := Try.underlying20
  a20 := Try.isAgg20
  z20 := Try.sizeOf20
  v20 := Try.zeroValue20
  t37 := Try.underlying37
  a37 := Try.isAgg37
  z37 := Try.sizeOf37
  v37 := Try.zeroValue37
  t46 := Try.underlying48
  a46 := Try.isAgg48
  z46 := Try.sizeOf48
  v46 := Try.zeroValue48
  t51 := Try.underlying22
  a51 := Try.isAgg22
  z51 := Try.sizeOf22
  v51 := Try.zeroValue22
  t53 := Try.underlying78
  a53 := Try.isAgg78
  z53 := Try.sizeOf78
  v53 := Try.zeroValue78
  t70 := Try.underlying51
  a70 := Try.isAgg51
  z70 := Try.sizeOf51
  v70 := Try.zeroValue51
  t72 := Try.underlying53
  a72 := Try.isAgg53
  z72 := Try.sizeOf53
  v72 := Try.zeroValue53
  t75 := Try.underlying56
  a75 := Try.isAgg56
  z75 := Try.sizeOf56
  v75 := Try.zeroValue56
  t76 := Try.underlying57
  a76 := Try.isAgg57
  z76 := Try.sizeOf57
  v76 := Try.zeroValue57
  t109 := Try.underlying49
  a109 := Try.isAgg49
  z109 := Try.sizeOf49
  v109 := Try.zeroValue49
  t127 := Try.underlying81
  a127 := Try.isAgg81
  z127 := Try.sizeOf81
  v127 := Try.zeroValue81
  t146 := Try.underlying76
  a146 := Try.isAgg76
  z146 := Try.sizeOf76
  v146 := Try.zeroValue76
  t148 := Try.underlying79
  a148 := Try.isAgg79
  z148 := Try.sizeOf79
  v148 := Try.zeroValue79
  t164 := Try.underlying103
  a164 := Try.isAgg103
  z164 := Try.sizeOf103
  v164 := Try.zeroValue103 }
theorem repLaysExtra : Go.Proofs.Builder.Extra Try.prog repRen := {
  sizeBuilder := by kernel_rfl
  liesBuilder := by kernel_rfl
  t5 := Try.underlying5
  a5 := Try.isAgg5
  z5 := Try.sizeOf5
  v5 := Try.zeroValue5
  infoByte := by kernel_rfl
  cellsByte := by kernel_rfl
  sizeByte := by kernel_rfl
  neB5 := by decide }
end Go.Proofs.Ytnifgfnocdffcaa
/- The contract of strings.Repeat of a byte 0. -/
namespace Go.Proofs.Ytnifgfnocdffcaa
open Go.RowKit

theorem rep_zeros (n : Nat) : Lib.repeatL [0] n = List.replicate n 0 := by
  induction n with
  | zero => rfl
  | succ n ih => rw [Lib.repeatL, ih]; rfl
theorem rep_any (n : Nat) (w : World) (h : n ≤ 5000) : Calls Try.prog 16 #[.string ⟨#[0]⟩, .int .i64 (n : Int)] w fun e w' => e = .returned (.string ⟨(List.replicate n (0 : UInt8)).toArray⟩) ∧ Below w.heap.size w w' := by
  have := Go.Proofs.Any.strings_Repeat repLays105 repLaysExtra ⟨#[0]⟩ n w (by omega) (by rw [show (⟨#[0]⟩ : ByteArray).size = 1 from rfl, Nat.one_mul]; omega)
  rw [show (⟨#[0]⟩ : ByteArray).data.toList = [0] from rfl, rep_zeros] at this
  exact this
end Go.Proofs.Ytnifgfnocdffcaa
/- The contracts of fit and tagOf. -/
namespace Go.Proofs.Ytnifgfnocdffcaa
open Go.RowKit

/-- May a key and a nonce be? -/
def kfit (key nonce : List UInt8) : Bool := decide ((key.length = 16 ∨ key.length = 32) ∧ nonce.length = 12)
theorem kfit_yes {key nonce : List UInt8} (h : kfit key nonce = true) : (key.length = 16 ∨ key.length = 32) ∧ nonce.length = 12 := of_decide_eq_true h
set_option maxRecDepth 100000 in
set_option maxHeartbeats 2000000 in
theorem fit_any (key nonce : List UInt8) (w : World) : Calls Try.prog 18 #[.string ⟨key.toArray⟩, .string ⟨nonce.toArray⟩] w fun e w' => e = .returned (.bool (kfit key nonce)) ∧ w = w' := by
  have hsa := size_of key
  have hsb := size_of nonce
  unfold kfit
  obtain ⟨n, hn⟩ : ∃ n, key.length = n := ⟨_, rfl⟩
  obtain ⟨m, hm⟩ : ∃ m, nonce.length = m := ⟨_, rfl⟩
  rw [hn] at hsa ⊢
  rw [hm] at hsb ⊢
  clear hn hm
  by_cases h1 : n = 16
  · subst h1
    by_cases h2 : m = 12
    · subst h2
      go_enter Try.func18, Try.ntmps18
      go_wp2
      go_ret
      exact ⟨rfl, rfl⟩
    · have e2 : ((m : Int) == 12) = false := by simp; omega
      have e3 : decide ((16 = 16 ∨ 16 = 32) ∧ m = 12) = false := by simp [h2]
      rw [e3]
      clear e3
      go_enter Try.func18, Try.ntmps18
      go_wp2
      go_ret
      exact ⟨rfl, rfl⟩
  · have e1 : ((n : Int) == 16) = false := by simp; omega
    by_cases h3 : n = 32
    · subst h3
      by_cases h2 : m = 12
      · subst h2
        go_enter Try.func18, Try.ntmps18
        go_wp2
        go_ret
        exact ⟨rfl, rfl⟩
      · have e2 : ((m : Int) == 12) = false := by simp; omega
        have e3 : decide ((32 = 16 ∨ 32 = 32) ∧ m = 12) = false := by simp [h2]
        rw [e3]
        clear e3
        go_enter Try.func18, Try.ntmps18
        go_wp2
        go_ret
        exact ⟨rfl, rfl⟩
    · have e3 : ((n : Int) == 32) = false := by simp; omega
      have e4 : decide ((n = 16 ∨ n = 32) ∧ m = 12) = false := by simp [h1, h3]
      rw [e4]
      clear e4
      go_enter Try.func18, Try.ntmps18
      go_wp2
      go_ret
      exact ⟨rfl, rfl⟩

theorem gzeros_blk : gzeros.length = 16 := rfl
theorem off_below {g : Nat} {a w w' : World} (hb : Below a.heap.size a w) (h : Off g g w w') (hg : a.heap.size ≤ g) : Below a.heap.size a w' := hb.trans (h.below hg hg hb.size)
set_option maxRecDepth 100000 in
set_option maxHeartbeats 2000000 in
theorem tagOf_any (key nonce head t : List UInt8) (w : World) (hk : key.length = 16 ∨ key.length = 32) (hn : nonce.length = 12) (hh : head.length ≤ 80) (ht : t.length ≤ 80) :
    Calls Try.prog 25 #[.string ⟨key.toArray⟩, .string ⟨nonce.toArray⟩, .string ⟨head.toArray⟩, .string ⟨t.toArray⟩] w fun e w' => e = .returned (.string ⟨(tagL (encL key) nonce head t).toArray⟩) ∧ Below w.heap.size w w' := by
  have H1 := Lib.hid (fun W => rep_any 16 W (by omega))
  have H2 := Lib.hid (fun W => enc_yes key gzeros W hk gzeros_blk)
  have H3 := Lib.hid (fun W => sum_yes (encL key gzeros) head t W (encL_len _ _ gzeros_blk) hh ht)
  have H4 := Lib.hid (fun W => streamOf_any key nonce 1 W)
  have H5 := Lib.hid (fun g W hW => changed_any key nonce (sumL (encL key gzeros) head t) 1 g W hk hn (by omega) (by rw [sumL_len]; omega) hW)
  have HE : Hid (ksx (encL key) nonce 1 (sumL (encL key gzeros) head t) = tagL (encL key) nonce head t) := Lib.hid (by rw [ksx_is (encL_blk key nonce hn), sumL_len]; rfl)
  rw [HE.out] at H5
  rw [show (List.replicate 16 (0 : UInt8)) = gzeros from rfl] at H1
  generalize tagL (encL key) nonce head t = R at H5 ⊢
  generalize sumL (encL key gzeros) head t = S at H3 H5
  generalize encL key gzeros = Z at H2 H3
  generalize gzeros = G at H1 H2
  clear HE hk hn hh ht
  go_enter Try.func25, Try.ntmps25
  go_wp2_with fail
  refine (H1.out _).mono ?_
  rintro e w1 ⟨rfl, hb1⟩
  go_wp2_with fail
  refine (H2.out _).mono ?_
  rintro e w2 ⟨rfl, hb2⟩
  go_wp2_with fail
  refine (H3.out _).mono ?_
  rintro e w3 ⟨rfl, hb3⟩
  have hB3 := bt (bt hb1 hb2) hb3
  have z3 := hB3.size
  go_wp2_with fail
  refine (H4.out _).mono ?_
  rintro e w4 ⟨rfl, B4, hb4⟩
  have hB4 := bt hB3 hb4
  clear hb1 hb2 hb3 hb4
  go_wp2_with fail
  refine (H5.out _ _ B4).mono ?_
  rintro e w5 ⟨rfl, O5⟩
  have hB5 := off_below hB4 O5 z3
  go_wp2_with fail
  go_ret
  exact ⟨rfl, hB5⟩
end Go.Proofs.Ytnifgfnocdffcaa
/- The contracts of Stream and Seal. -/
namespace Go.Proofs.Ytnifgfnocdffcaa
open Go.RowKit

set_option maxRecDepth 100000 in
set_option maxHeartbeats 2000000 in
theorem stream_yes (key nonce : List UInt8) (c n : Nat) (w : World) (hf : kfit key nonce = true) (hc : c < 4294967296) (hn : n ≤ 80) :
    Calls Try.prog 8 #[.string ⟨key.toArray⟩, .string ⟨nonce.toArray⟩, .int .u32 (c : Int), .int .i64 (n : Int)] w fun e w' => e = .returned (.tuple #[.string ⟨(strL (encL key) nonce c n).toArray⟩, .int .i64 0]) ∧ Below w.heap.size w w' := by
  have H1 := Lib.hid (fun W => fit_any key nonce W)
  rw [hf] at H1
  obtain ⟨hk, hn12⟩ := kfit_yes hf
  have H2 := Lib.hid (fun W => rep_any n W (by omega))
  have H3 := Lib.hid (fun W => streamOf_any key nonce c W)
  have H4 := Lib.hid (fun g W hW => changed_any key nonce (List.replicate n 0) c g W hk hn12 hc (by rw [List.length_replicate]; exact hn) hW)
  rw [ksx_zeros (encL_blk key nonce hn12)] at H4
  generalize strL (encL key) nonce c n = R at H4 ⊢
  generalize (List.replicate n (0 : UInt8)) = Z at H2 H4
  have n0 : (0 : Int) ≤ (n : Int) := by omega
  have n5 : (n : Int) ≤ 5000 := by omega
  clear hf hk hn12 hc hn
  go_enter Try.func8, Try.ntmps8
  go_wp2_with fail
  refine (H1.out _).mono ?_
  rintro e w1 ⟨rfl, rfl⟩
  go_wp2_with fail
  refine (H2.out _).mono ?_
  rintro e w2 ⟨rfl, hb2⟩
  go_wp2_with fail
  refine (H3.out _).mono ?_
  rintro e w3 ⟨rfl, B3, hb3⟩
  have z2 := hb2.size
  have hB3 := bt hb2 hb3
  clear hb3
  go_wp2_with fail
  refine (H4.out _ _ B3).mono ?_
  rintro e w4 ⟨rfl, O4⟩
  have hB4 := off_below hB3 O4 z2
  go_wp2_with fail
  go_ret2
  exact ⟨rfl, hB4⟩

set_option maxRecDepth 100000 in
set_option maxHeartbeats 2000000 in
theorem stream_no (key nonce : List UInt8) (c : Nat) (n : Int) (w : World) (h : ¬ (kfit key nonce = true ∧ 0 ≤ n ∧ n ≤ 5000)) :
    Calls Try.prog 8 #[.string ⟨key.toArray⟩, .string ⟨nonce.toArray⟩, .int .u32 (c : Int), .int .i64 n] w fun e w' => e = .returned (.tuple #[.string ⟨#[]⟩, .int .i64 4]) ∧ Below w.heap.size w w' := by
  have H1 := Lib.hid (fun W => fit_any key nonce W)
  by_cases hf : kfit key nonce = true
  · rw [hf] at H1
    by_cases h0 : 0 ≤ n
    · have h5 : ¬ n ≤ 5000 := fun h5 => h ⟨hf, h0, h5⟩
      have h6 : 5000 < n := by omega
      clear h h5 hf
      go_enter Try.func8, Try.ntmps8
      go_wp2_with fail
      refine (H1.out _).mono ?_
      rintro e w1 ⟨rfl, rfl⟩
      go_wp2_with fail
      go_ret2
      exact ⟨rfl, Below.refl _ _⟩
    · have h6 : n < 0 := by omega
      clear h h0 hf
      go_enter Try.func8, Try.ntmps8
      go_wp2_with fail
      refine (H1.out _).mono ?_
      rintro e w1 ⟨rfl, rfl⟩
      go_wp2_with fail
      go_ret2
      exact ⟨rfl, Below.refl _ _⟩
  · have hf' : kfit key nonce = false := by simpa using hf
    rw [hf'] at H1
    clear h hf hf'
    go_enter Try.func8, Try.ntmps8
    go_wp2_with fail
    refine (H1.out _).mono ?_
    rintro e w1 ⟨rfl, rfl⟩
    go_wp2_with fail
    go_ret2
    exact ⟨rfl, Below.refl _ _⟩

set_option maxRecDepth 100000 in
set_option maxHeartbeats 2000000 in
theorem seal_yes (key nonce head t : List UInt8) (w : World) (hf : kfit key nonce = true) (hh : head.length ≤ 80) (ht : t.length ≤ 80) :
    Calls Try.prog 12 #[.string ⟨key.toArray⟩, .string ⟨nonce.toArray⟩, .string ⟨head.toArray⟩, .string ⟨t.toArray⟩] w fun e w' => e = .returned (.tuple #[.string ⟨(sealL (encL key) nonce head t).toArray⟩, .int .i64 0]) ∧ Below w.heap.size w w' := by
  have H1 := Lib.hid (fun W => fit_any key nonce W)
  rw [hf] at H1
  obtain ⟨hk, hn12⟩ := kfit_yes hf
  have hC : ksx (encL key) nonce 2 t = ctL (encL key) nonce t := ksx_is (encL_blk key nonce hn12) t
  have H3 := Lib.hid (fun W => streamOf_any key nonce 2 W)
  have H4 := Lib.hid (fun g W hW => changed_any key nonce t 2 g W hk hn12 (by omega) ht hW)
  rw [hC] at H4
  have H5 := Lib.hid (fun W => tagOf_any key nonce head (ctL (encL key) nonce t) W hk hn12 hh (by rw [ctL_len]; exact ht))
  have HAD : Hid (∀ W : World, (Op.stringOp .add ⟨(ctL (encL key) nonce t).toArray⟩ ⟨(tagL (encL key) nonce head (ctL (encL key) nonce t)).toArray⟩).run Try.prog W = .ok (.string ⟨(sealL (encL key) nonce head t).toArray⟩) W) := Lib.hid fun W => run_string_add_lists (P := Try.prog) W _ _ (by rw [ctL_len]; omega) (by rw [tagL_len]; omega)
  generalize sealL (encL key) nonce head t = R at HAD ⊢
  generalize tagL (encL key) nonce head (ctL (encL key) nonce t) = T at H5 HAD
  generalize ctL (encL key) nonce t = C at H4 H5 HAD
  have hst := size_of t
  have hsh := size_of head
  obtain ⟨n, hn⟩ : ∃ n, t.length = n := ⟨_, rfl⟩
  obtain ⟨m, hm⟩ : ∃ m, head.length = m := ⟨_, rfl⟩
  rw [hn] at hst ht
  rw [hm] at hsh hh
  have n5 : (n : Int) ≤ 4096 := by omega
  have m5 : (m : Int) ≤ 4096 := by omega
  have had := fun W => HAD.out W
  clear hf hk hn12 hh ht hn hm hC HAD
  go_enter Try.func12, Try.ntmps12
  go_wp2_with fail
  refine (H1.out _).mono ?_
  rintro e w1 ⟨rfl, rfl⟩
  go_wp2_with fail
  refine (H3.out _).mono ?_
  rintro e w3 ⟨rfl, B3, hb3⟩
  go_wp2_with fail
  refine (H4.out _ _ B3).mono ?_
  rintro e w4 ⟨rfl, O4⟩
  have hB4 := off_below hb3 O4 (Nat.le_refl _)
  clear hb3 O4
  go_wp2_with fail
  refine (H5.out _).mono ?_
  rintro e w5 ⟨rfl, hb5⟩
  have hB5 := bt hB4 hb5
  go_wp2_with fail
  go_ret2
  exact ⟨rfl, hB5⟩

set_option maxRecDepth 100000 in
set_option maxHeartbeats 2000000 in
theorem seal_no (key nonce head t : List UInt8) (w : World) (h : ¬ (kfit key nonce = true ∧ head.length ≤ 4096 ∧ t.length ≤ 4096)) :
    Calls Try.prog 12 #[.string ⟨key.toArray⟩, .string ⟨nonce.toArray⟩, .string ⟨head.toArray⟩, .string ⟨t.toArray⟩] w fun e w' => e = .returned (.tuple #[.string ⟨#[]⟩, .int .i64 4]) ∧ Below w.heap.size w w' := by
  have H1 := Lib.hid (fun W => fit_any key nonce W)
  have hst := size_of t
  have hsh := size_of head
  obtain ⟨n, hn⟩ : ∃ n, t.length = n := ⟨_, rfl⟩
  obtain ⟨m, hm⟩ : ∃ m, head.length = m := ⟨_, rfl⟩
  rw [hn] at hst h
  rw [hm] at hsh h
  clear hn hm
  by_cases hf : kfit key nonce = true
  · rw [hf] at H1
    by_cases h0 : m ≤ 4096
    · have h5 : ¬ n ≤ 4096 := fun h5 => h ⟨hf, h0, h5⟩
      have h6 : (4096 : Int) < (n : Int) := by omega
      have h7 : (m : Int) ≤ 4096 := by omega
      clear h h5 h0 hf
      go_enter Try.func12, Try.ntmps12
      go_wp2_with fail
      refine (H1.out _).mono ?_
      rintro e w1 ⟨rfl, rfl⟩
      go_wp2_with fail
      go_ret2
      exact ⟨rfl, Below.refl _ _⟩
    · have h6 : (4096 : Int) < (m : Int) := by omega
      clear h h0 hf
      go_enter Try.func12, Try.ntmps12
      go_wp2_with fail
      refine (H1.out _).mono ?_
      rintro e w1 ⟨rfl, rfl⟩
      go_wp2_with fail
      go_ret2
      exact ⟨rfl, Below.refl _ _⟩
  · have hf' : kfit key nonce = false := by simpa using hf
    rw [hf'] at H1
    clear h hf hf'
    go_enter Try.func12, Try.ntmps12
    go_wp2_with fail
    refine (H1.out _).mono ?_
    rintro e w1 ⟨rfl, rfl⟩
    go_wp2_with fail
    go_ret2
    exact ⟨rfl, Below.refl _ _⟩
end Go.Proofs.Ytnifgfnocdffcaa
/- Closed: what is sealed of nothing by a key and a nonce of bytes 0. Nothing of any function. -/
namespace Go.Proofs.Ytnifgfnocdffcaa
def gkT : List UInt8 := [0, 0, 0, 0, 0, 0, 0, 0, 0, 0, 0, 0, 0, 0, 0, 0, 98, 99, 99, 99, 98, 99, 99, 99, 98, 99, 99, 99, 98, 99, 99, 99, 155, 152, 152, 201, 249, 251, 251, 170, 155, 152, 152, 201, 249, 251, 251, 170, 144, 151, 52, 80, 105, 108, 207, 250, 242, 244, 87, 51, 11, 15, 172, 153, 238, 6, 218, 123, 135, 106, 21, 129, 117, 158, 66, 178, 126, 145, 238, 43, 127, 46, 43, 136, 248, 68, 62, 9, 141, 218, 124, 187, 243, 75, 146, 144, 236, 97, 75, 133, 20, 37, 117, 140, 153, 255, 9, 55, 106, 180, 155, 167, 33, 117, 23, 135, 53, 80, 98, 11, 172, 175, 107, 60, 198, 27, 240, 155, 14, 249, 3, 51, 59, 169, 97, 56, 151, 6, 10, 4, 81, 29, 250, 159, 177, 212, 216, 226, 138, 125, 185, 218, 29, 123, 179, 222, 76, 102, 73, 65, 180, 239, 91, 203, 62, 146, 226, 17, 35, 233, 81, 207, 111, 143, 24, 142]
def gsT : List (List UInt8) := [[0, 0, 0, 0, 0, 0, 0, 0, 0, 0, 0, 0, 0, 0, 0, 1], [0, 0, 0, 0, 0, 0, 0, 0, 0, 0, 0, 0, 0, 0, 0, 1], [30, 31, 33, 62, 1, 0, 0, 0, 1, 0, 0, 0, 1, 0, 0, 0], [218, 234, 234, 153, 117, 86, 239, 81, 88, 93, 195, 21, 90, 218, 36, 75], [107, 120, 64, 75, 68, 221, 91, 251, 137, 115, 23, 228, 120, 135, 219, 170], [20, 71, 112, 136, 49, 23, 38, 231, 31, 3, 241, 64, 146, 108, 39, 163], [48, 221, 102, 216, 232, 254, 86, 127, 35, 221, 233, 210, 104, 84, 147, 4], [222, 216, 197, 211, 220, 57, 47, 229, 84, 30, 4, 241, 188, 21, 162, 105], [38, 184, 247, 169, 232, 26, 72, 30, 120, 21, 53, 10, 27, 34, 38, 25], [68, 36, 6, 182, 217, 81, 56, 157, 64, 77, 99, 196, 149, 251, 52, 133], [131, 247, 93, 208, 136, 243, 141, 226, 47, 131, 137, 25, 89, 53, 127, 54], [88, 226, 252, 206, 250, 126, 48, 97, 54, 127, 29, 87, 164, 231, 69, 90]]
theorem gk_table : gkT.take 16 = gzeros ∧ gkT.length = 176 ∧ ∀ j, j < 40 → gkT.take (16 + 4 * j) ++ nextW (gkT.take (16 + 4 * j)) (4 + j) 4 = gkT.take (16 + 4 * (j + 1)) := by decide +kernel
theorem gk_is : keysF gzeros = gkT := by
  have key : ∀ j, j ≤ 40 → kwN gzeros 4 j = gkT.take (16 + 4 * j) := by
    intro j
    induction j with
    | zero => intro _; exact gk_table.1.symm
    | succ j ih => intro h; rw [kwN, ih (by omega), gk_table.2.2 j (by omega)]
  have h := key 40 (Nat.le_refl _)
  rw [List.take_of_length_le (by rw [gk_table.2.1]; decide)] at h
  exact h
theorem gs_table : gsT.getD 0 [] = List.replicate 15 0 ++ [1] ∧ ∀ k, k < 11 → roundE 10 gkT (gsT.getD k []) k = gsT.getD (k + 1) [] := by decide +kernel
/-- The first 16 bytes of the stream. -/
def firstL : List UInt8 := [88, 226, 252, 206, 250, 126, 48, 97, 54, 127, 29, 87, 164, 231, 69, 90]
theorem first_is : encL gzeros (List.replicate 12 0 ++ be4 1) = firstL := by
  have key : ∀ k, k ≤ 11 → encN 10 gkT (List.replicate 15 0 ++ [1]) k = gsT.getD k [] := by
    intro k
    induction k with
    | zero => intro _; exact gs_table.1.symm
    | succ k ih => intro h; rw [encN, ih (by omega), gs_table.2 k (by omega)]
  have e : (List.replicate 12 0 ++ be4 1 : List UInt8) = List.replicate 15 0 ++ [1] := by decide +kernel
  rw [e]
  show encN 10 (keysF gzeros) _ 11 = _
  rw [gk_is]
  exact key 11 (Nat.le_refl _)
theorem none_seal : sealL (encL gzeros) (List.replicate 12 0) [] [] = firstL := by
  have h1 : ctL (encL gzeros) (List.replicate 12 0) [] = [] := List.eq_nil_of_length_eq_zero (ctL_len [])
  unfold sealL
  rw [h1, List.nil_append]
  unfold tagL
  have h2 : sumL (encL gzeros gzeros) [] [] = gzeros := by
    have hb : blocksN [] [] = [0] := by decide +kernel
    unfold sumL
    rw [hb]
    show nb (gm (0 ^^^ 0) _) = gzeros
    rw [Nat.xor_self, zero_gm, nb_zero]
  have h3 : strL (encL gzeros) (List.replicate 12 0) 1 16 = firstL := by
    unfold strL
    show (strB (encL gzeros) (List.replicate 12 0) 1 1).take 16 = _
    unfold strB strB
    rw [List.nil_append, Nat.add_zero, first_is]
    decide +kernel
  rw [h2, h3]
  decide +kernel
end Go.Proofs.Ytnifgfnocdffcaa
/- The contracts of stage 8's cut and alive. -/
namespace Go.Proofs.Ytnifgfnocdffcaa
open Go.RowKit

theorem u32_nat {n : Int} (h : (Lit.int .u32 n).wf = true) : ∃ m : Nat, n = (m : Int) ∧ m < 4294967296 := by
  simp [Lit.wf] at h
  have h1 : IntKind.u32.min = 0 := by decide
  have h2 : IntKind.u32.max = 4294967295 := by decide
  rw [h1, h2] at h
  exact ⟨n.toNat, by omega, by omega⟩
set_option maxRecDepth 100000 in
set_option maxHeartbeats 1000000 in
theorem kcut_any (s : List UInt8) (w : World) (hs : (s.length : Int) ≤ 9223372036854775807) :
    Calls Try.prog 7 #[.string ⟨s.toArray⟩] w fun e w' => e = .returned (.string ⟨(s.take 70).toArray⟩) ∧ w = w' := by
  have hz := size_of s
  obtain ⟨N, hN⟩ : ∃ N, s.length = N := ⟨_, rfl⟩
  rw [hN] at hz hs
  obtain ⟨m, hm⟩ : ∃ m, min N 70 = m := ⟨_, rfl⟩
  have hex := extract_take s m
  have he : s.take m = s.take 70 := by
    rw [← hm]
    by_cases h : N ≤ 70
    · rw [Nat.min_eq_left h, List.take_of_length_le (by omega), List.take_of_length_le (by omega)]
    · rw [Nat.min_eq_right (by omega)]
  rw [he] at hex
  have h1 : (m : Int) ≤ (N : Int) := by omega
  have h2 : min (N : Int) 70 = (m : Int) := by omega
  have h3 : m ≤ N := by omega
  clear hm he hN
  go_enter Try.func7, Try.ntmps7
  go_wp2
  go_ret
  exact ⟨rfl, rfl⟩
set_option maxRecDepth 100000 in
set_option maxHeartbeats 1000000 in
theorem kalive_any (w : World) : Calls Try.prog 10 #[] w fun e w' => e = .returned (.bool true) ∧ Below w.heap.size w w' := by
  have H1 := Lib.hid (fun W => rep_any 16 W (by omega))
  have H2 := Lib.hid (fun W => rep_any 12 W (by omega))
  have H3 := Lib.hid (fun W => seal_yes gzeros (List.replicate 12 0) [] [] W (by decide +kernel) (by decide) (by decide))
  rw [none_seal] at H3
  rw [show (List.replicate 16 (0 : UInt8)) = gzeros from rfl] at H1
  have hix0 := fun W => index_is ⟨firstL.toArray⟩ 0 0 88 rfl rfl W
  have hix1 := fun W => index_is ⟨firstL.toArray⟩ 1 1 226 rfl rfl W
  have hsz := size_of firstL
  rw [show firstL.length = 16 from rfl] at hsz
  generalize firstL = F at H3 hix0 hix1 hsz
  generalize gzeros = G at H1 H3
  generalize List.replicate 12 (0 : UInt8) = N at H2 H3
  go_enter Try.func10, Try.ntmps10
  go_wp2_with fail
  refine (H1.out _).mono ?_
  rintro e w1 ⟨rfl, hb1⟩
  go_wp2_with fail
  refine (H2.out _).mono ?_
  rintro e w2 ⟨rfl, hb2⟩
  go_wp2_with fail
  refine (H3.out _).mono ?_
  rintro e w3 ⟨rfl, hb3⟩
  clear H1 H2 H3
  go_wp2_with fail
  go_ret
  exact ⟨rfl, bt (bt hb1 hb2) hb3⟩
end Go.Proofs.Ytnifgfnocdffcaa
