/- Texts of this seat, one behind the other: KFill, KXored, KChange, MRep, KRep, KTag, KSeal, KOpen, WNonce. -/
import Derived.Shelf.Strings.Repeat
import Derived.Test.YtcecjoodlmpgnaaRows
import Derived.Test.YtcecjoodlmpgnaaQ01
import Derived.Test.YtcecjoodlmpgnaaQ06
import Derived.Test.YtcecjoodlmpgnaaQ07
import Derived.Test.YtcecjoodlmpgnaaQ09
import Derived.Test.YtcecjoodlmpgnaaQ14
/- The contracts of streamOf and fill. -/
namespace Go.Proofs.Ytcecjoodlmpgnaa
open Go.RowKit

/-- A stream in memory: its next block's number, and what is left of its block. -/
abbrev kst (key nonce : List UInt8) (n : Nat) (R : List UInt8) : Array Value := #[.string ⟨key.toArray⟩, .string ⟨nonce.toArray⟩, .int .u32 (n : Int), .string ⟨R.toArray⟩]
set_option maxRecDepth 100000 in
set_option maxHeartbeats 2000000 in
theorem streamOf_any (key nonce : List UInt8) (c : Nat) (w : World) : Calls Try.prog 21 #[.string ⟨key.toArray⟩, .string ⟨nonce.toArray⟩, .int .u32 (c : Int)] w fun e w' => e = .returned (.pointer (some ⟨w.heap.size, 0, none⟩)) ∧ Blk w' w.heap.size 61 (kst key nonce c []) ∧ Below w.heap.size w w' := by
  go_enter Try.func21, Try.ntmps21
  go_wp2
  go_ret
  exact ⟨rfl, Blk.new _ _ _, ba (Below.refl _ _) _⟩

set_option maxRecDepth 100000 in
set_option maxHeartbeats 4000000 in
theorem fill_any (key nonce R : List UInt8) (n g : Nat) (w : World) (hk : key.length = 16 ∨ key.length = 32) (hn : nonce.length = 12) (hn32 : n < 4294967296) (h : Blk w g 61 (kst key nonce n R)) :
    Calls Try.prog 28 #[.pointer (some ⟨g, 0, none⟩)] w fun e w' => e = .returned (.tuple #[]) ∧ Blk w' g 61 (kst key nonce ((n + 1) % 4294967296) (encL key (nonce ++ be4 n))) ∧ Off g g w w' := by
  have HT := Lib.hid (fun W => ktold_any n W hn32)
  have HE := Lib.hid (fun W => enc_yes key (nonce ++ be4 n) W hk (by rw [List.length_append, hn, be4_len]))
  have HAD : Hid (∀ W : World, (Op.stringOp .add ⟨nonce.toArray⟩ ⟨(be4 n).toArray⟩).run Try.prog W = .ok (.string ⟨(nonce ++ be4 n).toArray⟩) W) := Lib.hid fun W => run_string_add_lists (P := Try.prog) W _ _ (by omega) (by rw [be4_len]; omega)
  generalize encL key (nonce ++ be4 n) = E at HE ⊢
  generalize nonce ++ be4 n = NB at HE HAD
  generalize be4 n = B at HT HAD
  obtain ⟨m, hm⟩ : ∃ m, (n + 1) % 4294967296 = m := ⟨_, rfl⟩
  have hwr : ((n : Int) + 1) % 4294967296 = (m : Int) := by omega
  rw [hm]
  clear hk hn hm
  go_enter Try.func28, Try.ntmps28
  --R
  go_wp2_with fail
  have hbD := Blk.drew h
  have hS0 : (fun W : World => W.cell? ⟨g, 0, none⟩ = some (.string ⟨key.toArray⟩) ∧ W.cell? ⟨g, 1, none⟩ = some (.string ⟨nonce.toArray⟩) ∧ W.cell? ⟨g, 2, none⟩ = some (.int .u32 (n : Int))) w.drew := ⟨hbD.cell 0, hbD.cell 1, hbD.cell 2⟩
  refine wp_region_held_drew (S := fun W => W.cell? ⟨g, 0, none⟩ = some (.string ⟨key.toArray⟩) ∧ W.cell? ⟨g, 1, none⟩ = some (.string ⟨nonce.toArray⟩) ∧ W.cell? ⟨g, 2, none⟩ = some (.int .u32 (n : Int))) (by kernel_rfl) hS0 (fun hHeld => ?_)
  clear hS0
  refine wpAnyH_take (i := 0) (oi := ⟨some 3, _, _, _, _, _⟩) (v := ?_) rfl (by kernel_rfl) (by kernel_rfl) (by kernel_rfl) (fun _ _ _ h => h) (Or.inl ⟨by rfl, ?_⟩) (by assumption) ?_
  rotate_left
  · (intro w9 hSw; (try dsimp only at hSw); go_simp; try with_reducible rfl)
  try simp only [Act.put, List.setIfInBounds_toArray, List.set_cons_zero, List.set_cons_succ]
  refine wpAnyH_take (i := 1) (oi := ⟨some 4, _, _, _, _, _⟩) (v := ?_) rfl (by kernel_rfl) (by kernel_rfl) (by kernel_rfl) (fun _ _ _ h => h) (Or.inl ⟨by rfl, ?_⟩) (by assumption) ?_
  rotate_left
  · (intro w9 hSw; (try dsimp only at hSw); go_simp; try with_reducible rfl)
  try simp only [Act.put, List.setIfInBounds_toArray, List.set_cons_zero, List.set_cons_succ]
  refine wpAnyH_take (i := 2) (oi := ⟨some 5, _, _, _, _, _⟩) (v := ?_) rfl (by kernel_rfl) (by kernel_rfl) (by kernel_rfl) (fun _ _ _ h => h) (Or.inl ⟨by rfl, ?_⟩) (by assumption) ?_
  rotate_left
  · (intro w9 hSw; (try dsimp only at hSw); go_simp; try with_reducible rfl)
  try simp only [Act.put, List.setIfInBounds_toArray, List.set_cons_zero, List.set_cons_succ]
  refine wpAnyH_take (i := 3) (oi := ⟨some 6, _, _, _, _, _⟩) (v := ?_) rfl (by kernel_rfl) (by kernel_rfl) (by kernel_rfl) (fun _ _ _ h => h) (Or.inl ⟨by rfl, ?_⟩) (by assumption) ?_
  rotate_left
  · (intro w9 hSw; (try dsimp only at hSw); go_simp; try with_reducible rfl)
  try simp only [Act.put, List.setIfInBounds_toArray, List.set_cons_zero, List.set_cons_succ]
  refine wpAnyH_take (i := 4) (oi := ⟨some 7, _, _, _, _, _⟩) (v := .string ⟨key.toArray⟩) rfl (by kernel_rfl) (by kernel_rfl) (by kernel_rfl) (fun _ _ _ h => h) (Or.inl ⟨by rfl, ?_⟩) (by assumption) ?_
  · (intro w9 hSw; have f0 := hSw.1; clear hSw; (try dsimp only at hSw); go_simp)
  try simp only [Act.put, List.setIfInBounds_toArray, List.set_cons_zero, List.set_cons_succ]
  refine wpAnyH_take (i := 5) (oi := ⟨some 8, _, _, _, _, _⟩) (v := ?_) rfl (by kernel_rfl) (by kernel_rfl) (by kernel_rfl) (fun _ _ _ h => h) (Or.inl ⟨by rfl, ?_⟩) (by assumption) ?_
  rotate_left
  · (intro w9 hSw; (try dsimp only at hSw); go_simp; try with_reducible rfl)
  try simp only [Act.put, List.setIfInBounds_toArray, List.set_cons_zero, List.set_cons_succ]
  refine wpAnyH_take (i := 6) (oi := ⟨some 9, _, _, _, _, _⟩) (v := ?_) rfl (by kernel_rfl) (by kernel_rfl) (by kernel_rfl) (fun _ _ _ h => h) (Or.inl ⟨by rfl, ?_⟩) (by assumption) ?_
  rotate_left
  · (intro w9 hSw; (try dsimp only at hSw); go_simp; try with_reducible rfl)
  try simp only [Act.put, List.setIfInBounds_toArray, List.set_cons_zero, List.set_cons_succ]
  refine wpAnyH_take (i := 7) (oi := ⟨some 10, _, _, _, _, _⟩) (v := ?_) rfl (by kernel_rfl) (by kernel_rfl) (by kernel_rfl) (fun _ _ _ h => h) (Or.inl ⟨by rfl, ?_⟩) (by assumption) ?_
  rotate_left
  · (intro w9 hSw; (try dsimp only at hSw); go_simp; try with_reducible rfl)
  try simp only [Act.put, List.setIfInBounds_toArray, List.set_cons_zero, List.set_cons_succ]
  refine wpAnyH_take (i := 8) (oi := ⟨some 11, _, _, _, _, _⟩) (v := .string ⟨nonce.toArray⟩) rfl (by kernel_rfl) (by kernel_rfl) (by kernel_rfl) (fun _ _ _ h => h) (Or.inl ⟨by rfl, ?_⟩) (by assumption) ?_
  · (intro w9 hSw; have f0 := hSw.2.1; clear hSw; (try dsimp only at hSw); go_simp)
  try simp only [Act.put, List.setIfInBounds_toArray, List.set_cons_zero, List.set_cons_succ]
  refine wpAnyH_take (i := 9) (oi := ⟨some 12, _, _, _, _, _⟩) (v := ?_) rfl (by kernel_rfl) (by kernel_rfl) (by kernel_rfl) (fun _ _ _ h => h) (Or.inl ⟨by rfl, ?_⟩) (by assumption) ?_
  rotate_left
  · (intro w9 hSw; (try dsimp only at hSw); go_simp; try with_reducible rfl)
  try simp only [Act.put, List.setIfInBounds_toArray, List.set_cons_zero, List.set_cons_succ]
  refine wpAnyH_take (i := 10) (oi := ⟨some 13, _, _, _, _, _⟩) (v := ?_) rfl (by kernel_rfl) (by kernel_rfl) (by kernel_rfl) (fun _ _ _ h => h) (Or.inl ⟨by rfl, ?_⟩) (by assumption) ?_
  rotate_left
  · (intro w9 hSw; (try dsimp only at hSw); go_simp; try with_reducible rfl)
  try simp only [Act.put, List.setIfInBounds_toArray, List.set_cons_zero, List.set_cons_succ]
  refine wpAnyH_take (i := 11) (oi := ⟨some 14, _, _, _, _, _⟩) (v := ?_) rfl (by kernel_rfl) (by kernel_rfl) (by kernel_rfl) (fun _ _ _ h => h) (Or.inl ⟨by rfl, ?_⟩) (by assumption) ?_
  rotate_left
  · (intro w9 hSw; (try dsimp only at hSw); go_simp; try with_reducible rfl)
  try simp only [Act.put, List.setIfInBounds_toArray, List.set_cons_zero, List.set_cons_succ]
  refine wpAnyH_take (i := 12) (oi := ⟨some 15, _, _, _, _, _⟩) (v := .int .u32 (n : Int)) rfl (by kernel_rfl) (by kernel_rfl) (by kernel_rfl) (fun _ _ _ h => h) (Or.inl ⟨by rfl, ?_⟩) (by assumption) ?_
  · (intro w9 hSw; have f0 := hSw.2.2; clear hSw; (try dsimp only at hSw); go_simp)
  try simp only [Act.put, List.setIfInBounds_toArray, List.set_cons_zero, List.set_cons_succ]
  refine wpAnyH_ready (rs := [13]) (by kernel_rfl) (by simp) ?_
  refine AllReadyH.cons (o := ⟨some 16, _, _, _, _, _⟩) rfl (fun K9 hK9 => ?_) AllReadyH.nil
  go_simp; go_at_call 36
  refine (HT.out _).mono ?_
  rintro e w1 ⟨rfl, hb1⟩
  have B1 := Lib.hid (hbD.below hb1)
  refine hK9.out _ _ ?_ (fun hHeld => ?_)
  · exact ⟨B1.out.cell 0, B1.out.cell 1, B1.out.cell 2⟩
  clear hK9 K9
  try simp only [Act.put, List.setIfInBounds_toArray, List.set_cons_zero, List.set_cons_succ]
  refine wpAnyH_take (i := 14) (oi := ⟨some 17, _, _, _, _, _⟩) (v := .string ⟨NB.toArray⟩) rfl (by kernel_rfl) (by kernel_rfl) (by kernel_rfl) (fun _ _ _ h => h) (Or.inl ⟨by rfl, ?_⟩) (by assumption) ?_
  · (intro w9 hSw; have f0 := HAD.out w9; clear hSw; (try dsimp only at hSw); go_simp)
  try simp only [Act.put, List.setIfInBounds_toArray, List.set_cons_zero, List.set_cons_succ]
  refine wpAnyH_ready (rs := [15]) (by kernel_rfl) (by simp) ?_
  refine AllReadyH.cons (o := ⟨some 18, _, _, _, _, _⟩) rfl (fun K9 hK9 => ?_) AllReadyH.nil
  go_simp; go_at_call 29
  refine (HE.out _).mono ?_
  rintro e w2 ⟨rfl, hb2⟩
  have B2 := Lib.hid (B1.out.below hb2)
  refine hK9.out _ _ ?_ (fun hHeld => ?_)
  · exact ⟨B2.out.cell 0, B2.out.cell 1, B2.out.cell 2⟩
  clear hK9 K9
  try simp only [Act.put, List.setIfInBounds_toArray, List.set_cons_zero, List.set_cons_succ]
  refine wpAnyH_take (i := 16) (oi := ⟨some 2, _, _, _, _, _⟩) (v := ?_) rfl (by kernel_rfl) (by kernel_rfl) (by kernel_rfl) (fun _ _ _ h => h) (Or.inl ⟨by rfl, ?_⟩) (by assumption) ?_
  rotate_left
  · (intro w9 hSw; (try dsimp only at hSw); go_simp; try with_reducible rfl)
  try simp only [Act.put, List.setIfInBounds_toArray, List.set_cons_zero, List.set_cons_succ]
  refine wpAnyH_take (i := 17) (oi := ⟨some 19, _, _, _, _, _⟩) (v := ?_) rfl (by kernel_rfl) (by kernel_rfl) (by kernel_rfl) (fun _ _ _ h => h) (Or.inl ⟨by rfl, ?_⟩) (by assumption) ?_
  rotate_left
  · (intro w9 hSw; (try dsimp only at hSw); go_simp; try with_reducible rfl)
  try simp only [Act.put, List.setIfInBounds_toArray, List.set_cons_zero, List.set_cons_succ]
  refine wpAnyH_take (i := 18) (oi := ⟨some 20, _, _, _, _, _⟩) (v := ?_) rfl (by kernel_rfl) (by kernel_rfl) (by kernel_rfl) (fun _ _ _ h => h) (Or.inl ⟨by rfl, ?_⟩) (by assumption) ?_
  rotate_left
  · (intro w9 hSw; (try dsimp only at hSw); go_simp; try with_reducible rfl)
  try simp only [Act.put, List.setIfInBounds_toArray, List.set_cons_zero, List.set_cons_succ]
  refine wpAnyH_take (i := 19) (oi := ⟨some 21, _, _, _, _, _⟩) (v := ?_) rfl (by kernel_rfl) (by kernel_rfl) (by kernel_rfl) (fun _ _ _ h => h) (Or.inl ⟨by rfl, ?_⟩) (by assumption) ?_
  rotate_left
  · (intro w9 hSw; (try dsimp only at hSw); go_simp; try with_reducible rfl)
  try simp only [Act.put, List.setIfInBounds_toArray, List.set_cons_zero, List.set_cons_succ]
  refine wpAnyH_take (i := 20) (oi := ⟨some 22, _, _, _, _, _⟩) (v := ?_) rfl (by kernel_rfl) (by kernel_rfl) (by kernel_rfl) (fun _ _ _ h => h) (Or.inl ⟨by rfl, ?_⟩) (by assumption) ?_
  rotate_left
  · (intro w9 hSw; (try dsimp only at hSw); go_simp; try with_reducible rfl)
  try simp only [Act.put, List.setIfInBounds_toArray, List.set_cons_zero, List.set_cons_succ]
  refine wpAnyH_ready (rs := [21]) (by kernel_rfl) (by simp) ?_
  refine AllReadyH.cons (o := ⟨none, _, _, _, _, _⟩) rfl (fun K9 hK9 => ?_) AllReadyH.nil
  have c3 := B2.out.cell 3; have z3 := B2.out.frozen 3; have B3 := Lib.hid (B2.out.set_ 3 (.string ⟨E.toArray⟩))
  go_simp
  refine hK9.out _ _ ?_ (fun hHeld => ?_)
  · exact ⟨B3.out.cell 0, B3.out.cell 1, B3.out.cell 2⟩
  clear hK9 K9
  try simp only [Act.put]
  refine wpAnyH_done (by kernel_rfl) ?_ _
  generalize hw3 : w2.setCell ⟨g, 3, none⟩ (.string ⟨E.toArray⟩) = w3 at B3 ⊢
  have O3 : Off g g w w3 := by
    rw [← hw3]
    exact (((Off.refl g g w).drew.below_mid hb1).below_mid hb2).setCell (.inl rfl) _
  have C3 : Hid (Blk w3 g 61 (kst key nonce n E)) := B3
  have c2 := C3.out.cell 2
  have f2 := C3.out.frozen 2
  have K4 := Lib.hid (C3.out.set_ 2 (.int .u32 (m : Int)))
  have O4 := O3.setCell (q := ⟨g, 2, none⟩) (.inl rfl) (.int .u32 (m : Int))
  clear hw3 hb1 hb2 B1 B2 B3 hbD h HT HE HAD O3 C3
  go_wp2_with fail
  go_end0
  exact ⟨rfl, K4.out, O4⟩
end Go.Proofs.Ytcecjoodlmpgnaa
/- The contract of xored: a byte xor the stream's next. -/
namespace Go.Proofs.Ytcecjoodlmpgnaa
open Go.RowKit

theorem encL_blk (key nonce : List UInt8) (hn : nonce.length = 12) : ∀ i, (encL key (nonce ++ be4 i)).length = 16 := fun i => encL_len key _ (by rw [List.length_append, hn, be4_len])
theorem ksn_lt (c k : Nat) : ksn c k < 4294967296 := Nat.mod_lt _ (by decide)
theorem cons_extract (b : UInt8) (r : List UInt8) : (⟨(b :: r).toArray⟩ : ByteArray).extract 1 (r.length + 1) = ⟨r.toArray⟩ := by
  apply ByteArray.ext
  apply Array.toList_inj.1
  rw [Lib.extract_data]
  simp
set_option maxRecDepth 100000 in
set_option maxHeartbeats 4000000 in
theorem xored_any (key nonce : List UInt8) (c k g : Nat) (b : UInt8) (w : World) (hk : key.length = 16 ∨ key.length = 32) (hn : nonce.length = 12) (h : Blk w g 61 (kst key nonce (ksn c k) (ksr (encL key) nonce c k))) :
    Calls Try.prog 22 #[.pointer (some ⟨g, 0, none⟩), .int .u8 (b.toNat : Int)] w fun e w' => e = .returned (.int .u8 ((b ^^^ ksb (encL key) nonce c k).toNat : Int)) ∧ Blk w' g 61 (kst key nonce (ksn c (k + 1)) (ksr (encL key) nonce c (k + 1))) ∧ Off g g w w' := by
  have hE := encL_blk key nonce hn
  by_cases h16 : k % 16 = 0
  · obtain ⟨x, r, he⟩ : ∃ x r, encL key (nonce ++ be4 (c + k / 16)) = x :: r := by
      have := hE (c + k / 16)
      cases hh : encL key (nonce ++ be4 (c + k / 16)) with
      | nil => rw [hh] at this; cases this
      | cons x r => exact ⟨x, r, rfl⟩
    have hrl : r.length = 15 := by have := hE (c + k / 16); rw [he] at this; simpa using this
    obtain ⟨e1, e2, e3, e4, e5⟩ := ksr_first h16 x r he
    rw [e1, e2, e3]
    rw [e4] at h
    have HF := Lib.hid (fill_any key nonce [] (ksn c k) g w hk hn (ksn_lt _ _) h)
    rw [e5, he] at HF
    have c3 := h.cell 3
    have hix := fun W => index_is ⟨(x :: r).toArray⟩ 0 0 x rfl rfl W
    have hex := cons_extract x r
    have hsz := size_of (x :: r)
    have hxr := xor_byte b x
    generalize (ksn c k + 1) % 4294967296 = m at HF ⊢
    rw [hrl] at hex
    rw [List.length_cons, hrl] at hsz
    obtain ⟨z, hz⟩ : ∃ z, b ^^^ x = z := ⟨_, rfl⟩
    rw [hz] at hxr ⊢
    generalize (x :: r) = L at HF hix hex hsz
    clear hz he hrl e1 e2 e3 e4 e5 hE h16 hk hn
    go_enter Try.func22, Try.ntmps22
    go_wp2_with fail
    refine HF.out.mono ?_
    rintro e w1 ⟨rfl, B1, O1⟩
    have d3 := B1.cell 3
    have f3 := B1.frozen 3
    have B2 := Lib.hid (B1.set_ 3 (.string ⟨r.toArray⟩))
    have O2 := O1.setCell (q := ⟨g, 3, none⟩) (.inl rfl) (.string ⟨r.toArray⟩)
    clear c3 HF B1 O1 h
    go_wp2
    go_ret
    exact ⟨rfl, B2.out, O2⟩
  · obtain ⟨x, r, e4, e1, e2, e3⟩ := ksr_more (c := c) hE h16
    rw [e1, e2, e3]
    rw [e4] at h
    have d3 := h.cell 3
    have f3 := h.frozen 3
    have hix := fun W => index_is ⟨(x :: r).toArray⟩ 0 0 x rfl rfl W
    have hex := cons_extract x r
    have hsz := size_of (x :: r)
    have hxr := xor_byte b x
    generalize ksn c k = m at h ⊢
    have B2 := Lib.hid (h.set_ 3 (.string ⟨r.toArray⟩))
    have O2 := (Off.refl g g w).setCell (q := ⟨g, 3, none⟩) (.inl rfl) (.string ⟨r.toArray⟩)
    obtain ⟨z, hz⟩ : ∃ z, b ^^^ x = z := ⟨_, rfl⟩
    rw [hz] at hxr ⊢
    rw [List.length_cons] at hsz
    generalize r.length = q at hex hsz
    clear hz e1 e2 e3 e4 hE h16 hk hn h
    go_enter Try.func22, Try.ntmps22
    go_wp2
    go_ret
    exact ⟨rfl, B2.out, O2⟩
end Go.Proofs.Ytcecjoodlmpgnaa
/- The contract of changed by a stream's xored: a text xor the stream. -/
namespace Go.Proofs.Ytcecjoodlmpgnaa
open Go.RowKit

theorem ksn_zero (c : Nat) (h : c < 4294967296) : ksn c 0 = c := by unfold ksn; omega
theorem ksr_zero (E : List UInt8 → List UInt8) (nonce : List UInt8) (c : Nat) : ksr E nonce c 0 = [] := rfl
set_option maxRecDepth 100000 in
set_option maxHeartbeats 4000000 in
theorem changed_any (key nonce t : List UInt8) (c g : Nat) (w : World) (hk : key.length = 16 ∨ key.length = 32) (hn : nonce.length = 12) (hc : c < 4294967296) (ht : t.length ≤ 80) (h : Blk w g 61 (kst key nonce c [])) :
    Calls Try.prog 20 #[.string ⟨t.toArray⟩, .func (.func 22) #[.pointer (some ⟨g, 0, none⟩)] #[]] w fun e w' => e = .returned (.string ⟨(ksx (encL key) nonce c t).toArray⟩) ∧ Off g g w w' := by
  have h0 : Blk w g 61 (kst key nonce (ksn c 0) (ksr (encL key) nonce c 0)) := by rw [ksn_zero c hc]; exact h
  have HX := Lib.hid (fun k b W (hW : Blk W g 61 (kst key nonce (ksn c k) (ksr (encL key) nonce c k))) => xored_any key nonce c k g b W hk hn hW)
  have HN := Lib.hid (ksx_len (E := encL key) (nonce := nonce) (c := c) t)
  have HU := Lib.hid (fun k (hk : k < t.length) => ub_ksx (E := encL key) (nonce := nonce) (c := c) hk)
  generalize ksx (encL key) nonce c t = N at HN HU ⊢
  obtain ⟨cap, wa, hcv, hart, hb0⟩ := bytes_conv t w
  obtain ⟨n, hnn⟩ : ∃ n, t.length = n := ⟨_, rfl⟩
  have HTL := Lib.hid hnn
  rw [hnn] at HN HU hcv ht
  have HART0 : Hid (ART wa w.heap.size (cutL 0 N t)) := Lib.hid (by rw [cutL_zero]; exact hart)
  have HB0 := Lib.hid (h0.below hb0)
  have HO0 := Lib.hid ((Off.refl g g w).below_mid hb0)
  have hg : w.heap.size ≠ g := by have := h.lt; omega
  have HG := Lib.hid hg
  clear hk hn hc h h0 hart hb0 hnn hg
  go_enter Try.func20, Try.ntmps20
  go_wp2_with fail
  clear hcv
  go_loopw [11] (fun iv wr => ∃ k : Nat, k ≤ n ∧ iv = .int .i64 k ∧ Hid (ART wr w.heap.size (cutL k N t)) ∧ Hid (Blk wr g 61 (kst key nonce (ksn c k) (ksr (encL key) nonce c k))) ∧ Hid (Off g g w wr)) (fun iv _ => n - (intOf iv).toNat)
  case atStart => exact ⟨0, Nat.zero_le _, rfl, HART0, HB0, HO0⟩
  case round =>
    clear HART0 HB0 HO0
    obtain ⟨k, hk, rfl, P, B, O⟩ := hrel
    by_cases hlt : k < n
    · have hkl : (k : Int) < (n : Int) := by omega
      have hat := P.out k (by rw [cutL_len HN.out HTL.out (by omega)]; exact hlt)
      rw [ub_cutL HN.out HTL.out (by omega) hlt, if_neg (Nat.lt_irrefl _)] at hat
      have hc := hat.1
      have HX1 := Lib.hid (HX.out k (ub t k) wr B.out)
      have HUK := Lib.hid (HU.out k hlt)
      rw [← HUK.out] at HX1
      generalize ub t k = x at hc HX1
      go_wp2_with fail
      refine HX1.out.mono ?_
      rintro e w1 ⟨rfl, B1, O1⟩
      have P1 : ART w1 w.heap.size (cutL k N t) := fun j hj => O1.at_ (P.out j hj) HG.out HG.out
      have hf := (P1 k (by rw [cutL_len HN.out HTL.out (by omega)]; exact hlt)).2
      have hc1 := (P1 k (by rw [cutL_len HN.out HTL.out (by omega)]; exact hlt)).1
      have P2 := Lib.hid (P1.set_ HN.out HTL.out hlt)
      have B2 := Lib.hid (B1.far (p := ⟨w.heap.size, k, none⟩) (fun e => HG.out e.symm) (uv (ub N k)))
      have O2 : Hid (Off g g w (w1.setCell ⟨w.heap.size, k, none⟩ (uv (ub N k)))) := Lib.hid (by
        have := O.out.trans O1
        exact ⟨this.os, this.tape, this.output, by simpa [World.setCell] using this.size, fun i hi hp hg => (Below.heap_setCell w1 ⟨w.heap.size, k, none⟩ _ i (by show i ≠ w.heap.size; omega)).trans (this.block i hi hp hg)⟩)
      generalize ub N k = y at P2 B2 O2 HX1 ⊢
      clear hat hc HX1 P1 B1 O1 P B O HUK
      go_wp2_with fail
      exact ⟨⟨k + 1, by omega, by go_num, P2, B2, O2⟩, by simp [intOf]; omega⟩
    · obtain rfl : k = n := by omega
      have hp := P.out
      rw [cutL_all HN.out HTL.out] at hp
      have hcv := hp.text (c := cap) HN.out
      clear hp P B
      go_wp2
      go_ret
      exact ⟨rfl, O.out⟩
end Go.Proofs.Ytcecjoodlmpgnaa
/- repRen: the numbers under which the library's contracts find it. -/
namespace Go.Proofs.Ytcecjoodlmpgnaa
open Go.Shelf Go.RowKit
def repRen : Go.Shelf.Ren := ⟨fun | 99 => 45 | 105 => 30 | 165 => 46 | 166 => 47 | 169 => 49 | 170 => 48 | 206 => 67 | 212 => 44 | 240 => 68 | 241 => 69 | 263 => 65 | 264 => 66 | 276 => 88 | 277 => 89 | n => n, fun | 0 => 0 | 3 => 3 | 4 => 4 | 5 => 5 | 9 => 9 | 20 => 20 | 37 => 59 | 46 => 83 | 51 => 48 | 53 => 22 | 70 => 86 | 72 => 88 | 75 => 91 | 76 => 92 | 80 => 53 | 109 => 84 | 127 => 119 | 146 => 115 | 148 => 117 | 164 => 131 | n => n, fun | n => n⟩
theorem repLays105 : Go.Proofs.Lays.n105 Try.prog repRen := {
  mixed := by kernel_rfl
  f99 := Try.func45.trans (congrArg some (by kernel_rfl))
  f105 := Try.func30.trans (congrArg some (by kernel_rfl))
  f165 := Try.func46.trans (congrArg some (by kernel_rfl))
  f166 := Try.func47.trans (congrArg some (by kernel_rfl))
  f169 := Try.func49.trans (congrArg some (by kernel_rfl))
  f170 := Try.func48.trans (congrArg some (by kernel_rfl))
  f206 := Try.func67.trans (congrArg some (by kernel_rfl))
  f212 := Try.func44.trans (congrArg some (by kernel_rfl))
  f240 := Try.func68.trans (congrArg some (by kernel_rfl))
  f241 := Try.func69.trans (congrArg some (by kernel_rfl))
  f263 := Try.func65.trans (congrArg some (by kernel_rfl))
  f264 := Try.func66.trans (congrArg some (by kernel_rfl))
  f276 := Try.func88.trans (congrArg some (by kernel_rfl))
  f277 := Try.func89.trans (congrArg some (by kernel_rfl))
  t0 := Try.underlying0
  a0 := Try.isAgg0
  z0 := Try.sizeOf0
  v0 := Try.zeroValue0
  t3 := Try.underlying3
  a3 := Try.isAgg3
  z3 := Try.sizeOf3
  v3 := Try.zeroValue3
  t4 := Try.underlying4
  a4 := Try.isAgg4
  z4 := Try.sizeOf4
  v4 := Try.zeroValue4
  t5 := Try.underlying5
  a5 := Try.isAgg5
  z5 := Try.sizeOf5
  v5 := Try.zeroValue5
  t9 := Try.underlying9
  a9 := Try.isAgg9
  z9 := Try.sizeOf9
  v9 := Try.zeroValue9
  t20 := Try.underlying20
  a20 := Try.isAgg20
  z20 := Try.sizeOf20
  v20 := Try.zeroValue20
  t37 := Try.underlying59
  a37 := Try.isAgg59
  z37 := Try.sizeOf59
  v37 := Try.zeroValue59
  t46 := Try.underlying83
  a46 := Try.isAgg83
  z46 := Try.sizeOf83
  v46 := Try.zeroValue83
  t51 := Try.underlying48
  a51 := Try.isAgg48
  z51 := Try.sizeOf48
  v51 := Try.zeroValue48
  t53 := Try.underlying22
  a53 := Try.isAgg22
  z53 := Try.sizeOf22
  v53 := Try.zeroValue22
  t70 := Try.underlying86
  a70 := Try.isAgg86
  z70 := Try.sizeOf86
  v70 := Try.zeroValue86
  t72 := Try.underlying88
  a72 := Try.isAgg88
  z72 := Try.sizeOf88
  v72 := Try.zeroValue88
  t75 := Try.underlying91
  a75 := Try.isAgg91
  z75 := Try.sizeOf91
  v75 := Try.zeroValue91
  t76 := Try.underlying92
  a76 := Try.isAgg92
  z76 := Try.sizeOf92
  v76 := Try.zeroValue92
  t109 := Try.underlying84
  a109 := Try.isAgg84
  z109 := Try.sizeOf84
  v109 := Try.zeroValue84
  t127 := Try.underlying119
  a127 := Try.isAgg119
  z127 := Try.sizeOf119
  v127 := Try.zeroValue119
  t146 := Try.underlying115
  a146 := Try.isAgg115
  z146 := Try.sizeOf115
  v146 := Try.zeroValue115
  t148 := Try.underlying117
  a148 := Try.isAgg117
  z148 := Try.sizeOf117
  v148 := Try.zeroValue117
  t164 := Try.underlying131
  a164 := Try.isAgg131
  z164 := Try.sizeOf131
  v164 := Try.zeroValue131 }
theorem repLaysExtra : Go.Proofs.Builder.Extra Try.prog repRen := {
  sizeBuilder := by kernel_rfl
  liesBuilder := by kernel_rfl
  t5 := Try.underlying5
  a5 := Try.isAgg5
  z5 := Try.sizeOf5
  v5 := Try.zeroValue5
  infoByte := by kernel_rfl
  cellsByte := by kernel_rfl
  sizeByte := by kernel_rfl
  neB5 := by decide }
end Go.Proofs.Ytcecjoodlmpgnaa
/- The contract of strings.Repeat of a byte 0. -/
namespace Go.Proofs.Ytcecjoodlmpgnaa
open Go.RowKit

theorem rep_zeros (n : Nat) : Lib.repeatL [0] n = List.replicate n 0 := by
  induction n with
  | zero => rfl
  | succ n ih => rw [Lib.repeatL, ih]; rfl
theorem rep_any (n : Nat) (w : World) (h : n ≤ 5000) : Calls Try.prog 30 #[.string ⟨#[0]⟩, .int .i64 (n : Int)] w fun e w' => e = .returned (.string ⟨(List.replicate n (0 : UInt8)).toArray⟩) ∧ Below w.heap.size w w' := by
  have := Go.Proofs.Any.strings_Repeat repLays105 repLaysExtra ⟨#[0]⟩ n w (by omega) (by rw [show (⟨#[0]⟩ : ByteArray).size = 1 from rfl, Nat.one_mul]; omega)
  rw [show (⟨#[0]⟩ : ByteArray).data.toList = [0] from rfl, rep_zeros] at this
  exact this
end Go.Proofs.Ytcecjoodlmpgnaa
/- The contracts of fit and tagOf. -/
namespace Go.Proofs.Ytcecjoodlmpgnaa
open Go.RowKit

/-- May a key and a nonce be? -/
def kfit (key nonce : List UInt8) : Bool := decide ((key.length = 16 ∨ key.length = 32) ∧ nonce.length = 12)
theorem kfit_yes {key nonce : List UInt8} (h : kfit key nonce = true) : (key.length = 16 ∨ key.length = 32) ∧ nonce.length = 12 := of_decide_eq_true h
set_option maxRecDepth 100000 in
set_option maxHeartbeats 2000000 in
theorem fit_any (key nonce : List UInt8) (w : World) : Calls Try.prog 19 #[.string ⟨key.toArray⟩, .string ⟨nonce.toArray⟩] w fun e w' => e = .returned (.bool (kfit key nonce)) ∧ w = w' := by
  have hsa := size_of key
  have hsb := size_of nonce
  unfold kfit
  obtain ⟨n, hn⟩ : ∃ n, key.length = n := ⟨_, rfl⟩
  obtain ⟨m, hm⟩ : ∃ m, nonce.length = m := ⟨_, rfl⟩
  rw [hn] at hsa ⊢
  rw [hm] at hsb ⊢
  clear hn hm
  by_cases h1 : n = 16
  · subst h1
    by_cases h2 : m = 12
    · subst h2
      go_enter Try.func19, Try.ntmps19
      go_wp2
      go_ret
      exact ⟨rfl, rfl⟩
    · have e2 : ((m : Int) == 12) = false := by simp; omega
      have e3 : decide ((16 = 16 ∨ 16 = 32) ∧ m = 12) = false := by simp [h2]
      rw [e3]
      clear e3
      go_enter Try.func19, Try.ntmps19
      go_wp2
      go_ret
      exact ⟨rfl, rfl⟩
  · have e1 : ((n : Int) == 16) = false := by simp; omega
    by_cases h3 : n = 32
    · subst h3
      by_cases h2 : m = 12
      · subst h2
        go_enter Try.func19, Try.ntmps19
        go_wp2
        go_ret
        exact ⟨rfl, rfl⟩
      · have e2 : ((m : Int) == 12) = false := by simp; omega
        have e3 : decide ((32 = 16 ∨ 32 = 32) ∧ m = 12) = false := by simp [h2]
        rw [e3]
        clear e3
        go_enter Try.func19, Try.ntmps19
        go_wp2
        go_ret
        exact ⟨rfl, rfl⟩
    · have e3 : ((n : Int) == 32) = false := by simp; omega
      have e4 : decide ((n = 16 ∨ n = 32) ∧ m = 12) = false := by simp [h1, h3]
      rw [e4]
      clear e4
      go_enter Try.func19, Try.ntmps19
      go_wp2
      go_ret
      exact ⟨rfl, rfl⟩

theorem gzeros_blk : gzeros.length = 16 := rfl
theorem off_below {g : Nat} {a w w' : World} (hb : Below a.heap.size a w) (h : Off g g w w') (hg : a.heap.size ≤ g) : Below a.heap.size a w' := hb.trans (h.below hg hg hb.size)
set_option maxRecDepth 100000 in
set_option maxHeartbeats 2000000 in
theorem tagOf_any (key nonce head t : List UInt8) (w : World) (hk : key.length = 16 ∨ key.length = 32) (hn : nonce.length = 12) (hh : head.length ≤ 80) (ht : t.length ≤ 80) :
    Calls Try.prog 23 #[.string ⟨key.toArray⟩, .string ⟨nonce.toArray⟩, .string ⟨head.toArray⟩, .string ⟨t.toArray⟩] w fun e w' => e = .returned (.string ⟨(tagL (encL key) nonce head t).toArray⟩) ∧ Below w.heap.size w w' := by
  have H1 := Lib.hid (fun W => rep_any 16 W (by omega))
  have H2 := Lib.hid (fun W => enc_yes key gzeros W hk gzeros_blk)
  have H3 := Lib.hid (fun W => sum_yes (encL key gzeros) head t W (encL_len _ _ gzeros_blk) hh ht)
  have H4 := Lib.hid (fun W => streamOf_any key nonce 1 W)
  have H5 := Lib.hid (fun g W hW => changed_any key nonce (sumL (encL key gzeros) head t) 1 g W hk hn (by omega) (by rw [sumL_len]; omega) hW)
  have HE : Hid (ksx (encL key) nonce 1 (sumL (encL key gzeros) head t) = tagL (encL key) nonce head t) := Lib.hid (by rw [ksx_is (encL_blk key nonce hn), sumL_len]; rfl)
  rw [HE.out] at H5
  rw [show (List.replicate 16 (0 : UInt8)) = gzeros from rfl] at H1
  generalize tagL (encL key) nonce head t = R at H5 ⊢
  generalize sumL (encL key gzeros) head t = S at H3 H5
  generalize encL key gzeros = Z at H2 H3
  generalize gzeros = G at H1 H2
  clear HE hk hn hh ht
  go_enter Try.func23, Try.ntmps23
  go_wp2_with fail
  refine (H1.out _).mono ?_
  rintro e w1 ⟨rfl, hb1⟩
  go_wp2_with fail
  refine (H2.out _).mono ?_
  rintro e w2 ⟨rfl, hb2⟩
  go_wp2_with fail
  refine (H3.out _).mono ?_
  rintro e w3 ⟨rfl, hb3⟩
  have hB3 := bt (bt hb1 hb2) hb3
  have z3 := hB3.size
  go_wp2_with fail
  refine (H4.out _).mono ?_
  rintro e w4 ⟨rfl, B4, hb4⟩
  have hB4 := bt hB3 hb4
  clear hb1 hb2 hb3 hb4
  go_wp2_with fail
  refine (H5.out _ _ B4).mono ?_
  rintro e w5 ⟨rfl, O5⟩
  have hB5 := off_below hB4 O5 z3
  go_wp2_with fail
  go_ret
  exact ⟨rfl, hB5⟩
end Go.Proofs.Ytcecjoodlmpgnaa
/- The contracts of Stream and Seal. -/
namespace Go.Proofs.Ytcecjoodlmpgnaa
open Go.RowKit

set_option maxRecDepth 100000 in
set_option maxHeartbeats 2000000 in
theorem seal_yes (key nonce head t : List UInt8) (w : World) (hf : kfit key nonce = true) (hh : head.length ≤ 80) (ht : t.length ≤ 80) :
    Calls Try.prog 14 #[.string ⟨key.toArray⟩, .string ⟨nonce.toArray⟩, .string ⟨head.toArray⟩, .string ⟨t.toArray⟩] w fun e w' => e = .returned (.tuple #[.string ⟨(sealL (encL key) nonce head t).toArray⟩, .int .i64 0]) ∧ Below w.heap.size w w' := by
  have H1 := Lib.hid (fun W => fit_any key nonce W)
  rw [hf] at H1
  obtain ⟨hk, hn12⟩ := kfit_yes hf
  have hC : ksx (encL key) nonce 2 t = ctL (encL key) nonce t := ksx_is (encL_blk key nonce hn12) t
  have H3 := Lib.hid (fun W => streamOf_any key nonce 2 W)
  have H4 := Lib.hid (fun g W hW => changed_any key nonce t 2 g W hk hn12 (by omega) ht hW)
  rw [hC] at H4
  have H5 := Lib.hid (fun W => tagOf_any key nonce head (ctL (encL key) nonce t) W hk hn12 hh (by rw [ctL_len]; exact ht))
  have HAD : Hid (∀ W : World, (Op.stringOp .add ⟨(ctL (encL key) nonce t).toArray⟩ ⟨(tagL (encL key) nonce head (ctL (encL key) nonce t)).toArray⟩).run Try.prog W = .ok (.string ⟨(sealL (encL key) nonce head t).toArray⟩) W) := Lib.hid fun W => run_string_add_lists (P := Try.prog) W _ _ (by rw [ctL_len]; omega) (by rw [tagL_len]; omega)
  generalize sealL (encL key) nonce head t = R at HAD ⊢
  generalize tagL (encL key) nonce head (ctL (encL key) nonce t) = T at H5 HAD
  generalize ctL (encL key) nonce t = C at H4 H5 HAD
  have hst := size_of t
  have hsh := size_of head
  obtain ⟨n, hn⟩ : ∃ n, t.length = n := ⟨_, rfl⟩
  obtain ⟨m, hm⟩ : ∃ m, head.length = m := ⟨_, rfl⟩
  rw [hn] at hst ht
  rw [hm] at hsh hh
  have n5 : (n : Int) ≤ 4096 := by omega
  have m5 : (m : Int) ≤ 4096 := by omega
  have had := fun W => HAD.out W
  clear hf hk hn12 hh ht hn hm hC HAD
  go_enter Try.func14, Try.ntmps14
  go_wp2_with fail
  refine (H1.out _).mono ?_
  rintro e w1 ⟨rfl, rfl⟩
  go_wp2_with fail
  refine (H3.out _).mono ?_
  rintro e w3 ⟨rfl, B3, hb3⟩
  go_wp2_with fail
  refine (H4.out _ _ B3).mono ?_
  rintro e w4 ⟨rfl, O4⟩
  have hB4 := off_below hb3 O4 (Nat.le_refl _)
  clear hb3 O4
  go_wp2_with fail
  refine (H5.out _).mono ?_
  rintro e w5 ⟨rfl, hb5⟩
  have hB5 := bt hB4 hb5
  go_wp2_with fail
  go_ret2
  exact ⟨rfl, hB5⟩

set_option maxRecDepth 100000 in
set_option maxHeartbeats 2000000 in
theorem seal_no (key nonce head t : List UInt8) (w : World) (h : ¬ (kfit key nonce = true ∧ head.length ≤ 4096 ∧ t.length ≤ 4096)) :
    Calls Try.prog 14 #[.string ⟨key.toArray⟩, .string ⟨nonce.toArray⟩, .string ⟨head.toArray⟩, .string ⟨t.toArray⟩] w fun e w' => e = .returned (.tuple #[.string ⟨#[]⟩, .int .i64 4]) ∧ Below w.heap.size w w' := by
  have H1 := Lib.hid (fun W => fit_any key nonce W)
  have hst := size_of t
  have hsh := size_of head
  obtain ⟨n, hn⟩ : ∃ n, t.length = n := ⟨_, rfl⟩
  obtain ⟨m, hm⟩ : ∃ m, head.length = m := ⟨_, rfl⟩
  rw [hn] at hst h
  rw [hm] at hsh h
  clear hn hm
  by_cases hf : kfit key nonce = true
  · rw [hf] at H1
    by_cases h0 : m ≤ 4096
    · have h5 : ¬ n ≤ 4096 := fun h5 => h ⟨hf, h0, h5⟩
      have h6 : (4096 : Int) < (n : Int) := by omega
      have h7 : (m : Int) ≤ 4096 := by omega
      clear h h5 h0 hf
      go_enter Try.func14, Try.ntmps14
      go_wp2_with fail
      refine (H1.out _).mono ?_
      rintro e w1 ⟨rfl, rfl⟩
      go_wp2_with fail
      go_ret2
      exact ⟨rfl, Below.refl _ _⟩
    · have h6 : (4096 : Int) < (m : Int) := by omega
      clear h h0 hf
      go_enter Try.func14, Try.ntmps14
      go_wp2_with fail
      refine (H1.out _).mono ?_
      rintro e w1 ⟨rfl, rfl⟩
      go_wp2_with fail
      go_ret2
      exact ⟨rfl, Below.refl _ _⟩
  · have hf' : kfit key nonce = false := by simpa using hf
    rw [hf'] at H1
    clear h hf hf'
    go_enter Try.func14, Try.ntmps14
    go_wp2_with fail
    refine (H1.out _).mono ?_
    rintro e w1 ⟨rfl, rfl⟩
    go_wp2_with fail
    go_ret2
    exact ⟨rfl, Below.refl _ _⟩
end Go.Proofs.Ytcecjoodlmpgnaa
/- The contract of Open. -/
namespace Go.Proofs.Ytcecjoodlmpgnaa
open Go.RowKit

theorem kextract (l : List UInt8) (a b : Nat) : (⟨l.toArray⟩ : ByteArray).extract a b = ⟨((l.take b).drop a).toArray⟩ := by
  apply ByteArray.ext
  apply Array.toList_inj.1
  rw [Lib.extract_data]
  simp [List.drop_take]
theorem kdrew {w w1 : World} (h : Below w.drew.heap.size w.drew w1) : Below w.heap.size w w1 := (Below.refl w.heap.size w).drew.trans h
/-- What Open tells. -/
def openR (o : Option (List UInt8)) : Value := .tuple #[.string ⟨(o.getD []).toArray⟩, .int .i64 (if o.isSome then 0 else 5)]
set_option maxRecDepth 100000 in
set_option maxHeartbeats 4000000 in
theorem open_yes (key nonce head s : List UInt8) (w : World) (hf : kfit key nonce = true) (hh : head.length ≤ 80) (h16 : 16 ≤ s.length) (hs : s.length ≤ 96) :
    Calls Try.prog 18 #[.string ⟨key.toArray⟩, .string ⟨nonce.toArray⟩, .string ⟨head.toArray⟩, .string ⟨s.toArray⟩] w fun e w' => e = .returned (openR (openL (encL key) nonce head s)) ∧ Below w.heap.size w w' := by
  have H1 := Lib.hid (fun W => fit_any key nonce W)
  rw [hf] at H1
  obtain ⟨hk, hn12⟩ := kfit_yes hf
  obtain ⟨n, hn⟩ : ∃ n, s.length = n + 16 := ⟨s.length - 16, by omega⟩
  have hn2 : s.length - 16 = n := by omega
  have htl : (s.take n).length = n := by rw [List.length_take]; omega
  have hC : ksx (encL key) nonce 2 (s.take n) = ctL (encL key) nonce (s.take n) := ksx_is (encL_blk key nonce hn12) _
  have H3 := Lib.hid (fun W => streamOf_any key nonce 2 W)
  have H4 := Lib.hid (fun g W hW => changed_any key nonce (s.take n) 2 g W hk hn12 (by omega) (by omega) hW)
  rw [hC] at H4
  have H5 := Lib.hid (fun W => tagOf_any key nonce head (s.take n) W hk hn12 hh (by omega))
  have hx1 := kextract s 0 n
  rw [List.drop_zero] at hx1
  have hx2 := kextract s n (n + 16)
  rw [List.take_of_length_le (by omega)] at hx2
  have hss := size_of s
  have hsh := size_of head
  rw [hn] at hss
  obtain ⟨q, hq⟩ : ∃ q, n + 16 = q := ⟨_, rfl⟩
  obtain ⟨m, hm⟩ : ∃ m, head.length = m := ⟨_, rfl⟩
  rw [hq] at hss hx2
  rw [hm] at hsh hh
  have m5 : (m : Int) ≤ 4096 := by omega
  have e1 : (q : Int) - 16 = (n : Int) := by omega
  have e2 : (q : Int) ≤ 4112 := by omega
  have e3 : (0 : Int) ≤ (n : Int) := by omega
  have e4 : n ≤ q := by omega
  have e5 : (n : Int) ≤ (q : Int) := by omega
  unfold openL
  rw [hn2]
  generalize ctL (encL key) nonce (s.take n) = C at H4 ⊢
  generalize tagL (encL key) nonce head (s.take n) = T at H5 ⊢
  generalize s.drop n = D at hx2 ⊢
  generalize s.take n = P at H4 H5 hx1
  clear hf hk hn12 hh h16 hs hn hn2 htl hC hq hm
  by_cases hTD : T = D
  · subst hTD
    rw [if_pos rfl]
    go_enter Try.func18, Try.ntmps18
    go_wp2_with fail
    refine (H1.out _).mono ?_
    rintro e w1 ⟨rfl, rfl⟩
    go_wp2_with fail
    go_region_held3 (fun _ => True) (trivial) (first | (go_at_call 23; refine (H5.out _).mono ?_; rintro e w5 ⟨rfl, hb5⟩))
    have z5 := kdrew hb5
    clear H5 H1
    go_wp2_with fail
    refine (H3.out _).mono ?_
    rintro e w6 ⟨rfl, B6, hb6⟩
    have hB6 := bt z5 hb6
    have z6 := z5.size
    clear z5 hb6
    go_wp2_with fail
    refine (H4.out _ _ B6).mono ?_
    rintro e w7 ⟨rfl, O7⟩
    have hB7 := off_below hB6 O7 z6
    go_wp2_with fail
    go_ret2
    exact ⟨rfl, hB7⟩
  · rw [if_neg hTD]
    have hne : (D == T) = false := beq_eq_false_iff_ne.2 (fun e => hTD e.symm)
    have hne2 : ¬ D = T := fun e => hTD e.symm
    clear hTD
    go_enter Try.func18, Try.ntmps18
    go_wp2_with fail
    refine (H1.out _).mono ?_
    rintro e w1 ⟨rfl, rfl⟩
    go_wp2_with fail
    go_region_held3 (fun _ => True) (trivial) (first | (go_at_call 23; refine (H5.out _).mono ?_; rintro e w5 ⟨rfl, hb5⟩))
    have z5 := kdrew hb5
    clear H5 H1
    go_wp2_with fail
    go_ret2
    exact ⟨rfl, z5⟩

set_option maxRecDepth 100000 in
set_option maxHeartbeats 2000000 in
theorem open_no (key nonce head s : List UInt8) (w : World) (hs : (s.length : Int) ≤ 9223372036854775807) (h : ¬ (kfit key nonce = true ∧ head.length ≤ 4096 ∧ 16 ≤ s.length ∧ s.length ≤ 4112)) :
    Calls Try.prog 18 #[.string ⟨key.toArray⟩, .string ⟨nonce.toArray⟩, .string ⟨head.toArray⟩, .string ⟨s.toArray⟩] w fun e w' => e = .returned (.tuple #[.string ⟨#[]⟩, .int .i64 4]) ∧ Below w.heap.size w w' := by
  have H1 := Lib.hid (fun W => fit_any key nonce W)
  have hst := size_of s
  have hsh := size_of head
  obtain ⟨n, hn⟩ : ∃ n, s.length = n := ⟨_, rfl⟩
  obtain ⟨m, hm⟩ : ∃ m, head.length = m := ⟨_, rfl⟩
  rw [hn] at hst h hs
  rw [hm] at hsh h
  clear hn hm
  have hw : ∀ i : Int, -9223372036854775808 ≤ i → i ≤ 9223372036854775807 → True := fun _ _ _ => trivial
  clear hw
  by_cases hf : kfit key nonce = true
  · rw [hf] at H1
    by_cases h0 : m ≤ 4096
    · have h7 : (m : Int) ≤ 4096 := by omega
      by_cases h1 : 16 ≤ n
      · have h5 : ¬ n ≤ 4112 := fun h5 => h ⟨hf, h0, h1, h5⟩
        have h6 : (4112 : Int) < (n : Int) := by omega
        have h8 : (0 : Int) ≤ (n : Int) - 16 := by omega
        clear h h5 h0 hf
        go_enter Try.func18, Try.ntmps18
        go_wp2_with fail
        refine (H1.out _).mono ?_
        rintro e w1 ⟨rfl, rfl⟩
        go_wp2_with fail
        go_ret2
        exact ⟨rfl, Below.refl _ _⟩
      · have h8 : (n : Int) - 16 < 0 := by omega
        clear h h0 hf
        go_enter Try.func18, Try.ntmps18
        go_wp2_with fail
        refine (H1.out _).mono ?_
        rintro e w1 ⟨rfl, rfl⟩
        go_wp2_with fail
        go_ret2
        exact ⟨rfl, Below.refl _ _⟩
    · have h6 : (4096 : Int) < (m : Int) := by omega
      clear h h0 hf
      go_enter Try.func18, Try.ntmps18
      go_wp2_with fail
      refine (H1.out _).mono ?_
      rintro e w1 ⟨rfl, rfl⟩
      go_wp2_with fail
      go_ret2
      exact ⟨rfl, Below.refl _ _⟩
  · have hf' : kfit key nonce = false := by simpa using hf
    rw [hf'] at H1
    clear h hf hf'
    go_enter Try.func18, Try.ntmps18
    go_wp2_with fail
    refine (H1.out _).mono ?_
    rintro e w1 ⟨rfl, rfl⟩
    go_wp2_with fail
    go_ret2
    exact ⟨rfl, Below.refl _ _⟩
end Go.Proofs.Ytcecjoodlmpgnaa
/- The contracts of nonceOf, headOf and generation. -/
namespace Go.Proofs.Ytcecjoodlmpgnaa
open Go.RowKit

set_option maxRecDepth 100000 in
set_option maxHeartbeats 1000000 in
theorem nonceOf_any (a g : Nat) (w : World) (ha : a ≤ 63) (hg : (g : Int) ≤ 18446744073709551615) :
    Calls Try.prog 11 #[.int .i64 (a : Int), .int .u64 (g : Int)] w fun e w' => e = .returned (.string ⟨(wnonce a g).toArray⟩) ∧ Below w.heap.size w w' := by
  have HA := Lib.hid (fun W => number_any a W (by omega))
  have HG := Lib.hid (fun W => number_any g W hg)
  have hx := kextract (low a 8) 0 4
  rw [List.drop_zero, low_take a 4 8 (by omega)] at hx
  have hz := size_of (low a 8)
  rw [low_length] at hz
  have had := fun (W : World) => run_string_add_lists (P := Try.prog) W (low a 4) (low g 8) (by rw [low_length]; omega) (by rw [low_length]; omega)
  rw [show low a 4 ++ low g 8 = wnonce a g from rfl] at had
  generalize wnonce a g = R at had ⊢
  generalize low a 4 = A4 at hx had
  generalize low a 8 = A8 at HA hx hz
  generalize low g 8 = G8 at HG had
  have a0 : (0 : Int) ≤ (a : Int) := by omega
  have a1 : (a : Int) ≤ 63 := by omega
  have aw : IntKind.u64.wrap (a : Int) = (a : Int) := by rw [IntKind.wrap_u64]; omega
  clear hg
  go_enter Try.func11, Try.ntmps11
  go_wp2_with fail
  have hS0 : Below w.heap.size w w.drew := (Below.refl _ w).drew
  go_region_held3 (fun W => Below w.heap.size w W) (first | assumption | exact hS0 | exact Below.refl _ _) (first
    | (go_at_call 16; (with_reducible refine (HA.out _).mono ?_); rintro e w5 ⟨rfl, hb5⟩; have hB5 := bt (by assumption : Below w.heap.size w _) hb5)
    | (go_at_call 16; (with_reducible refine (HG.out _).mono ?_); rintro e w6 ⟨rfl, hb6⟩; have hB6 := bt (by assumption : Below w.heap.size w _) hb6))
  all_goals (go_wp2_with fail; go_ret; exact ⟨rfl, by assumption⟩)

set_option maxRecDepth 100000 in
set_option maxHeartbeats 1000000 in
theorem headOf_any (k l n : Nat) (w : World) (hk : k ≤ 2) (hl : (l : Int) ≤ 18446744073709551615) (hn : n ≤ 64) :
    Calls Try.prog 15 #[.int .i64 (k : Int), .int .u64 (l : Int), .int .i64 (n : Int)] w fun e w' => e = .returned (.string ⟨(whead k l n).toArray⟩) ∧ Below w.heap.size w w' := by
  have HK := Lib.hid (fun W => number_any k W (by omega))
  have HL := Lib.hid (fun W => number_any l W hl)
  have HN := Lib.hid (fun W => number_any n W (by omega))
  have had := fun (W : World) => run_string_add_lists (P := Try.prog) W (low k 8) (low l 8) (by rw [low_length]; omega) (by rw [low_length]; omega)
  have had2 := fun (W : World) => run_string_add_lists (P := Try.prog) W (low k 8 ++ low l 8) (low n 8) (by rw [List.length_append, low_length, low_length]; omega) (by rw [low_length]; omega)
  rw [show low k 8 ++ low l 8 ++ low n 8 = whead k l n from rfl] at had2
  generalize whead k l n = R at had2 ⊢
  generalize low k 8 ++ low l 8 = KL at had had2
  generalize low k 8 = K8 at HK had
  generalize low l 8 = L8 at HL had
  generalize low n 8 = N8 at HN had2
  have k0 : (0 : Int) ≤ (k : Int) := by omega
  have k1 : (k : Int) ≤ 2 := by omega
  have n0 : (0 : Int) ≤ (n : Int) := by omega
  have n1 : (n : Int) ≤ 64 := by omega
  have kw : IntKind.u64.wrap (k : Int) = (k : Int) := by rw [IntKind.wrap_u64]; omega
  have nw : IntKind.u64.wrap (n : Int) = (n : Int) := by rw [IntKind.wrap_u64]; omega
  clear hl
  go_enter Try.func15, Try.ntmps15
  go_wp2_with fail
  refine (HK.out _).mono ?_
  rintro e w1 ⟨rfl, hb1⟩
  go_wp2_with fail
  refine (HL.out _).mono ?_
  rintro e w2 ⟨rfl, hb2⟩
  go_wp2_with fail
  refine (HN.out _).mono ?_
  rintro e w3 ⟨rfl, hb3⟩
  go_wp2_with fail
  go_ret
  exact ⟨rfl, bt (bt hb1 hb2) hb3⟩

theorem split_eight (s : List UInt8) (h : s.length = 8) : splitGo s [110] 0 [] = ([(false, val s, [])], 0, 0) := by
  have hp : part s 0 8 = s := by unfold part; rw [List.drop_zero, List.take_of_length_le (by omega)]
  have hz : fsz s 0 110 = some 8 := by simp [fsz, h]
  have hf : fldAt s 0 110 = (false, val s, []) := by simp [fldAt, hp]
  rw [splitGo, hz]
  simp only [splitGo, hf, h]
  simp

set_option maxRecDepth 100000 in
set_option maxHeartbeats 1000000 in
theorem generation_any (s : List UInt8) (w : World) (hs : s.length = 8) :
    Calls Try.prog 17 #[.string ⟨s.toArray⟩] w fun e w' => e = .returned (.int .u64 (val s : Int)) ∧ Below w.heap.size w w' := by
  have HS : Hid (∀ W, Calls Try.prog 27 #[.string ⟨s.toArray⟩, .string ⟨#[110]⟩] W (SplitPost W ([(false, val s, [])], 0, 0))) := Lib.hid fun W =>
    split_ok s [110] W _ (split_eight s hs) (fun k hk => by simp at hk; exact .inl hk) (by decide) (by omega)
  generalize val s = n at HS ⊢
  clear hs
  go_enter Try.func17, Try.ntmps17
  go_wp2_with fail
  refine (HS.out _).mono ?_
  rintro e w1 ⟨A, cap, rfl, hF, hc, hb1⟩
  obtain ⟨g, off, rfl, c0, c1, c2⟩ := hF 0 (by simp)
  simp only [List.getElem_cons_zero] at c0 c1 c2
  go_wp2_with fail
  go_ret
  exact ⟨rfl, hb1⟩
end Go.Proofs.Ytcecjoodlmpgnaa
