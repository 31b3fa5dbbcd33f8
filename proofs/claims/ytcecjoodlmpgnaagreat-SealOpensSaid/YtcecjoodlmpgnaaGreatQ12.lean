/- Texts of this seat, one behind the other: CText, CFld, CSplit. -/
import Derived.Test.YtcecjoodlmpgnaaGreatQ03
/- Contracts of Clone, and of the reader's text. -/
namespace Go.Proofs.YtcecjoodlmpgnaaGreat
open Go.RowKit
attribute [local go_sem ↓] Go.wp_at_zero Go.wp_at_succ

set_option maxRecDepth 100000 in
set_option maxHeartbeats 1000000 in
theorem number_no (p n base : Nat) (s : List UInt8) (v : Value) (L : List Fld) (w : World) (h : Rd w p s n v L base) (hs : (s.length : Int) ≤ 9223372036854775807) (hn : s.length < n + 8) :
    Calls Tryz.prog 82 #[.pointer (some ⟨p, 0, none⟩)] w fun e w' => e = .returned (.bool false) ∧ Rd w' p s n v L base ∧ Off p p w w' := by
  go_enter Tryz.func82, Tryz.ntmps82
  go_wp2_with fail
  refine (has_rd p n base 8 s v L _ h hs false (by simp; omega)).mono ?_
  rintro e w1 ⟨rfl, h1, ho1⟩
  go_wp2
  go_ret
  exact ⟨rfl, h1, ho1⟩

/-- 'make([]byte, n)'. -/
theorem make_row (n : Nat) (hn : n ≤ 1099511627776) (W : World) : (Instr.makeSlice 64 (.int .i64 (n : Int)) (.int .i64 (n : Int))).run Tryz.prog W = .ok (.slice (some ⟨W.heap.size, 0, none⟩) n n) (W.alloc (.cells (row [] n) 5)) := by
  obtain ⟨i1, hi, hz0, hz1, hz2⟩ := info_parts infoU8
  have hb : (i1.bytes : Int) * (n : Int) ≤ 281474976710656 := by rw [hz2]; omega
  have hr := run_make (P := Tryz.prog) W 64 5 i1 _ Tryz.underlying64 hi hz0 .i64 .i64 n n (by omega) (by omega) hb (by omega)
  rw [hz1, Int.toNat_natCast, Nat.mul_one, made_row] at hr
  exact hr
/-- The string over a row of bytes that is known whole. -/
theorem string_over (W : World) (g : Nat) (s : List UInt8) (h : Blk W g 5 (row s s.length)) (h0 : s ≠ []) (hl : s.length ≤ 1048576) :
    (Builtin.unsafeString_ #[135, 3] 9 #[.pointer (some ⟨g, 0, none⟩), .int .i64 (s.length : Int)]).run Tryz.prog W = .ok (.string ⟨s.toArray⟩) (W.freeze ⟨g, 0, none⟩ s.length) := by
  refine Lib.run_unsafeString_row W 135 3 9 5 Tryz.underlying135 (by kernel_rfl) g s.length (by unfold World.shape?; rw [show W.heap[g]? = _ from h]; simp [row]) s h0 (Nat.le_refl _) (by omega) (fun j x hx => ?_)
  have e : (⟨g, 0, none⟩ : Addr).add j = ⟨g, j, none⟩ := by cases j <;> simp [Addr.add]
  rw [e, h.cell j, row_full]
  simp [hx]

set_option maxRecDepth 100000 in
set_option maxHeartbeats 2000000 in
theorem lclone_any (s : List UInt8) (w : World) (hl : s.length ≤ 1048576) :
    Calls Tryz.prog 130 #[.string ⟨s.toArray⟩] w fun e w' => e = .returned (.string ⟨s.toArray⟩) ∧ Below w.heap.size w w' := by
  have hz := size_mk s
  by_cases h0 : s = []
  · subst h0
    clear hz
    go_enter Tryz.func130, Tryz.ntmps130
    go_wp2
    go_ret
    exact ⟨rfl, Below.refl _ _⟩
  · have hpos : 0 < s.length := List.length_pos_iff.2 h0
    have hmk := make_row s.length (by omega)
    have B0 := Blk.new w 5 (row [] s.length)
    have hcp := copy_row _ w.heap.size s.length [] s B0 (by simp)
    simp only [List.length_nil, Nat.sub_zero, List.nil_append] at hcp
    have B1 : Blk ((w.alloc (.cells (row [] s.length) 5)).setRow w.heap.size (row s s.length)) w.heap.size 5 (row s s.length) := setRow_heap _ _ _ _ _ (0, 0) B0
    have hus := string_over _ w.heap.size s B1 h0 hl
    have hb : Below w.heap.size w ((w.alloc (.cells (row [] s.length) 5)).setRow w.heap.size (row s s.length)) := Below.trans (b := w.alloc (.cells (row [] s.length) 5)) (ba (Below.refl _ _) _) ⟨rfl, rfl, rfl, by simp [World.setRow], fun k hk => setRow_other _ _ _ _ (by omega)⟩
    have HB := Lib.hid hb
    clear B0 B1 hb h0
    go_enter Tryz.func130, Tryz.ntmps130
    go_wp2
    go_ret
    exact ⟨rfl, Lib.below_freeze HB.out (p := ⟨w.heap.size, 0, none⟩) (Nat.le_refl _) _⟩

set_option maxRecDepth 100000 in
set_option maxHeartbeats 1000000 in
theorem clone_any (s : List UInt8) (w : World) (hl : s.length ≤ 1048576) :
    Calls Tryz.prog 112 #[.string ⟨s.toArray⟩] w fun e w' => e = .returned (.string ⟨s.toArray⟩) ∧ Below w.heap.size w w' := by
  go_enter Tryz.func112, Tryz.ntmps112
  go_wp2_with fail
  refine (lclone_any s _ hl).mono ?_
  rintro e w1 ⟨rfl, hb⟩
  go_wp2
  go_ret
  exact ⟨rfl, hb⟩

theorem extract_part (s : List UInt8) (a b : Nat) : (⟨s.toArray⟩ : ByteArray).extract a b = ⟨(part s a (b - a)).toArray⟩ := by
  apply ByteArray.ext
  apply Array.toList_inj.1
  rw [Lib.extract_data]
  simp [part]
theorem val_two (s : List UInt8) (n : Nat) (h : n + 2 ≤ s.length) : val (part s n 2) < 65536 := by
  have h1 := val_lt (part s n 2)
  rw [part_len s n 2 h] at h1
  omega
theorem Rd.later {W W1 : World} {p n base : Nat} {s : List UInt8} {v : Value} {L : List Fld} (h : Rd W p s n v L base) (hb : Below W.heap.size W W1) : Rd W1 p s n v L base :=
  ⟨h.1.below hb, h.2.1.kept (row := none) ⟨hb.os, hb.tape, hb.output, hb.size, fun k hk _ => hb.block k hk⟩ (by cases hv : v.ownBlock with | none => exact .inl rfl | some g => exact .inr (by simp)), h.2.2⟩
theorem Rd.alloc {W : World} {p n base : Nat} {s : List UInt8} {v : Value} {L : List Fld} (h : Rd W p s n v L base) (o : Obj) : Rd (W.alloc o) p s n v L base := h.later (ba (Below.refl _ _) o)

set_option maxRecDepth 100000 in
set_option maxHeartbeats 4000000 in
theorem text_yes (p n m base : Nat) (s : List UInt8) (v : Value) (L : List Fld) (w : World) (h : Rd w p s n v L base) (hs : (s.length : Int) ≤ 9223372036854775807) (hn : n + 2 + m ≤ s.length) (hm : m ≤ 4096) (hv : val (part s n 2) = m) (hL : L.length ≤ 64) (hp : base ≤ p) (hB : base ≤ w.heap.size) :
    Calls Tryz.prog 81 #[.pointer (some ⟨p, 0, none⟩)] w fun e w' => e = .returned (.bool true) ∧ (∃ v', Rd w' p s (n + 2 + m) v' (L ++ [(true, 0, part s (n + 2) m)]) base) ∧ Below base w w' := by
  obtain ⟨ti, hi0, hz0, hz1, hz2⟩ := info_parts infoF
  have HV := Lib.hid hv
  clear hv
  go_enter Tryz.func81, Tryz.ntmps81
  go_wp2_with fail
  refine (has_rd p n base 2 s v L _ h hs true (by simp; omega)).mono ?_
  rintro e w1 ⟨rfl, h1, ho1⟩
  have hb1 : Below base w w1 := ho1.below hp hp hB
  have P0 := h1.1.at_ (i := 0) rfl
  have c0 := P0.1
  have H1 := Lib.hid (h1.alloc (.cells #[.int .i64 (n : Int)] 78))
  clear h h1 ho1
  go_wp2_with fail
  refine (rdlow_any p n 2 base s v L _ H1.out hs (by omega) (by omega)).mono ?_
  rw [HV.out]
  rintro e w2 ⟨rfl, h2, ho2⟩
  have hb2 : Below base w w2 := (hb1.alloc (Nat.le_trans hB hb1.size) _).trans (ho2.below hp hp (by simp; have := hb1.size; omega))
  clear H1 ho2 hb1 P0 c0
  go_wp2_with fail
  refine (has_rd p (n + 2) base m s v L _ h2 hs true (by simp; omega)).mono ?_
  rintro e w3 ⟨rfl, h3, ho3⟩
  have hb3 : Below base w w3 := hb2.trans (ho3.below hp hp (Nat.le_trans hB hb2.size))
  clear h2 ho3 hb2
  go_wp2_with fail
  refine (pass_any p ((n + 2 : Nat) : Int) m _ (h3.1.at_ (i := 0) rfl) (by omega) (by omega) (by omega)).mono ?_
  rintro e w4 ⟨rfl, rfl⟩
  have h4 := h3.pass (m := n + 2 + m) hn
  have hb4 : Below base w (w3.setCell ⟨p, 0, none⟩ (.int .i64 ((n + 2 + m : Nat) : Int))) := hb3.setCell (p := ⟨p, 0, none⟩) hp _
  have ew : ((n + 2 : Nat) : Int) + m = ((n + 2 + m : Nat) : Int) := by omega
  rw [ew]
  obtain ⟨w5, hw5⟩ : ∃ w5, w3.setCell ⟨p, 0, none⟩ (.int .i64 ((n + 2 + m : Nat) : Int)) = w5 := ⟨_, rfl⟩
  rw [hw5] at h4 hb4 ⊢
  clear hw5 h3 hb3 ew
  obtain ⟨a, ha⟩ : ∃ a, n + 2 = a := ⟨_, rfl⟩
  rw [ha] at h4 hn ⊢
  obtain ⟨b, hb⟩ : ∃ b, a + m = b := ⟨_, rfl⟩
  rw [hb] at h4 hn
  have hex := extract_part s a b
  rw [show b - a = m by omega] at hex
  obtain ⟨S, hS⟩ : ∃ S, part s a m = S := ⟨_, rfl⟩
  have hSl : S.length = m := by rw [← hS]; exact part_len s a m (by omega)
  rw [hS] at hex
  have p0 := (h4.1.at_ (i := 0) rfl).1
  have p1 := (h4.1.at_ (i := 1) rfl).1
  have p2 := (h4.1.at_ (i := 2) rfl).1
  have hz := size_mk s
  have i0 : (0 : Int) ≤ (a : Int) := by omega
  have i1 : (a : Int) ≤ (b : Int) := by omega
  have i2 : (b : Int) ≤ (s.length : Int) := by omega
  have HA := Lib.hid ha
  have HBB := Lib.hid hb
  have HS := Lib.hid hS
  have HSL := Lib.hid hSl
  have H4 := Lib.hid h4
  have HB5 : base ≤ w5.heap.size := Nat.le_trans hB hb4.size
  clear ha hb hS hSl h4
  go_wp2_with fail
  go_region_law (first
    | (refine step_append_lies _ (by rfl) _ _ _ (by rfl) base 71 ti _ 3 32 Tryz.underlying67 hi0 hz0 hz1 hz2 rfl (by omega) v L.length (fcells L) (by rfl) (h6.2.1.alloc (.cells #[.bool true, .int .u64 0, .string ⟨S.toArray⟩] 71)) ⟨w6.heap.size, 0, none⟩ 1 1 [.bool true, .int .u64 0, .string ⟨S.toArray⟩] (by rfl) (by rfl) (World.news_of_block (cs := #[.bool true, .int .u64 0, .string ⟨S.toArray⟩]) (t := 71) (fr := (0, 0)) (heap_alloc_new w6 _)) (by simp [Value.oneCell']) (by omega) (by unfold maxLen; omega) (by omega) (by simp; omega) (w6.heap.size + 1) (by simp) ?_; intro gg cap w7 hown7 hgrow hat hlt; have B7 := (h6.1.alloc (.cells #[.bool true, .int .u64 0, .string ⟨S.toArray⟩] 71)).grown hgrow (Ne.symm h6.row); have e0 := (B7.at_ (i := 0) rfl).1; have e1 := (B7.at_ (i := 1) rfl).1; have e2 := (B7.at_ (i := 2) rfl).1; have f2 := B7.frozen 2)
    | (go_simp; go_at_call 112; refine (clone_any S _ (by rw [HSL.out]; omega)).mono ?_; rintro e w6 ⟨rfl, hb6⟩; have h6 := (H4.out.drewN 1).later hb6; have HB6 : base ≤ w6.heap.size := Nat.le_trans HB5 hb6.size; have c0 := (h6.1.at_ (i := 0) rfl).1; have c1 := (h6.1.at_ (i := 1) rfl).1; have c2 := (h6.1.at_ (i := 2) rfl).1; have d2 := ((h6.1.alloc (.cells #[.bool true, .int .u64 0, .string ⟨S.toArray⟩] 71)).at_ (i := 2) rfl).1))
  all_goals
    have hb6' : Below base w w6 := Below.trans (b := w5.drewN 1) ⟨hb4.os, hb4.tape, hb4.output, hb4.size, hb4.block⟩ (hb6.mono HB5)
    have hb7 : Below base w w7 := (hb6'.alloc HB6 _).grown hgrow (by simp; omega) (fun k e => (h6.2.1.lt k e).1)
    have hR := Rd.more (x := (true, 0, S)) h6 hown7 B7
    go_wp2
    go_ret
    rw [HA.out, HBB.out, HS.out]
    exact ⟨rfl, ⟨_, hR⟩, hb7.setCell (p := ⟨p, 2, none⟩) hp _⟩
end Go.Proofs.YtcecjoodlmpgnaaGreat
/- Contracts of the reader's field. -/
namespace Go.Proofs.YtcecjoodlmpgnaaGreat
open Go.RowKit

set_option maxRecDepth 100000 in
set_option maxHeartbeats 1000000 in
theorem text_no1 (p n base : Nat) (s : List UInt8) (v : Value) (L : List Fld) (w : World) (h : Rd w p s n v L base) (hs : (s.length : Int) ≤ 9223372036854775807) (hn : s.length < n + 2) :
    Calls Tryz.prog 81 #[.pointer (some ⟨p, 0, none⟩)] w fun e w' => e = .returned (.bool false) ∧ Rd w' p s n v L base ∧ Off p p w w' := by
  go_enter Tryz.func81, Tryz.ntmps81
  go_wp2_with fail
  refine (has_rd p n base 2 s v L _ h hs false (by simp; omega)).mono ?_
  rintro e w1 ⟨rfl, h1, ho1⟩
  go_wp2
  go_ret
  exact ⟨rfl, h1, ho1⟩

set_option maxRecDepth 100000 in
set_option maxHeartbeats 2000000 in
theorem text_no2 (p n m base : Nat) (s : List UInt8) (v : Value) (L : List Fld) (w : World) (h : Rd w p s n v L base) (hs : (s.length : Int) ≤ 9223372036854775807) (hn : n + 2 ≤ s.length) (hm : 4096 < m) (hv : val (part s n 2) = m) :
    Calls Tryz.prog 81 #[.pointer (some ⟨p, 0, none⟩)] w fun e w' => e = .returned (.bool false) ∧ Rd w' p s n v L base ∧ Off p p w w' := by
  have hm2 : (m : Int) ≤ 65535 := by have := val_two s n hn; omega
  have HV := Lib.hid hv
  clear hv
  go_enter Tryz.func81, Tryz.ntmps81
  go_wp2_with fail
  refine (has_rd p n base 2 s v L _ h hs true (by simp; omega)).mono ?_
  rintro e w1 ⟨rfl, h1, ho1⟩
  have P0 := h1.1.at_ (i := 0) rfl
  have c0 := P0.1
  have Q := Blk.new w1 78 #[.int .i64 (n : Int)]
  have hpq : w1.heap.size ≠ p := by have := h1.1.lt; omega
  have H1 := Lib.hid (h1.alloc (.cells #[.int .i64 (n : Int)] 78))
  clear h h1
  go_wp2_with fail
  refine (rdlow_any p n 2 base s v L _ H1.out hs (by omega) (by omega)).mono ?_
  rw [HV.out]
  rintro e w2 ⟨rfl, h2, ho2⟩
  have q0 := ((ho2.blk Q hpq hpq).at_ (i := 0) rfl).1
  have r0 := h2.1.at_ (i := 0) rfl
  have s0 := r0.1
  have s1 := r0.2
  have H2 := Lib.hid h2
  have HQ := Lib.hid Q
  clear H1 P0 c0 r0 h2 Q
  go_wp2_with fail
  go_ret
  exact ⟨rfl, H2.out.pass (by omega), (((ho1.alloc _).trans ho2).setCell (.inl rfl) _)⟩

set_option maxRecDepth 100000 in
set_option maxHeartbeats 2000000 in
theorem text_no3 (p n m base : Nat) (s : List UInt8) (v : Value) (L : List Fld) (w : World) (h : Rd w p s n v L base) (hs : (s.length : Int) ≤ 9223372036854775807) (hn : n + 2 ≤ s.length) (hm : m ≤ 4096) (hm2 : s.length < n + 2 + m) (hv : val (part s n 2) = m) :
    Calls Tryz.prog 81 #[.pointer (some ⟨p, 0, none⟩)] w fun e w' => e = .returned (.bool false) ∧ Rd w' p s n v L base ∧ Off p p w w' := by
  have HV := Lib.hid hv
  clear hv
  go_enter Tryz.func81, Tryz.ntmps81
  go_wp2_with fail
  refine (has_rd p n base 2 s v L _ h hs true (by simp; omega)).mono ?_
  rintro e w1 ⟨rfl, h1, ho1⟩
  have P0 := h1.1.at_ (i := 0) rfl
  have c0 := P0.1
  have Q := Blk.new w1 78 #[.int .i64 (n : Int)]
  have hpq : w1.heap.size ≠ p := by have := h1.1.lt; omega
  have H1 := Lib.hid (h1.alloc (.cells #[.int .i64 (n : Int)] 78))
  clear h h1
  go_wp2_with fail
  refine (rdlow_any p n 2 base s v L _ H1.out hs (by omega) (by omega)).mono ?_
  rw [HV.out]
  rintro e w2 ⟨rfl, h2, ho2⟩
  have Q2 := ho2.blk Q hpq hpq
  clear H1 P0 c0 Q
  go_wp2_with fail
  refine (has_rd p (n + 2) base m s v L _ h2 hs false (by simp; omega)).mono ?_
  rintro e w3 ⟨rfl, h3, ho3⟩
  have q0 := ((ho3.blk Q2 hpq hpq).at_ (i := 0) rfl).1
  have r0 := h3.1.at_ (i := 0) rfl
  have s0 := r0.1
  have s1 := r0.2
  have H3 := Lib.hid h3
  have HQ := Lib.hid Q2
  clear r0 h3 Q2 h2
  go_wp2_with fail
  go_ret
  exact ⟨rfl, H3.out.pass (by omega), (((ho1.alloc _).trans ho2).trans ho3).setCell (.inl rfl) _⟩

/-- How many bytes the field of a kind has, at a place; none: it may not be. -/
def fsz (s : List UInt8) (n : Nat) (k : UInt8) : Option Nat :=
  if k = 110 then (if n + 8 ≤ s.length then some 8 else none)
  else if n + 2 ≤ s.length ∧ val (part s n 2) ≤ 4096 ∧ n + 2 + val (part s n 2) ≤ s.length then some (2 + val (part s n 2)) else none
/-- The field of a kind at a place. -/
def fldAt (s : List UInt8) (n : Nat) (k : UInt8) : Fld := if k = 110 then (false, val (part s n 8), []) else (true, 0, part s (n + 2) (val (part s n 2)))
/-- A kind. -/
def Kind (k : UInt8) : Prop := k = 110 ∨ k = 116

set_option maxRecDepth 100000 in
set_option maxHeartbeats 1000000 in
theorem field_some (p n z base : Nat) (k : UInt8) (s : List UInt8) (v : Value) (L : List Fld) (w : World) (h : Rd w p s n v L base) (hk : Kind k) (hz : fsz s n k = some z) (hs : (s.length : Int) ≤ 9223372036854775807) (hL : L.length ≤ 64) (hp : base ≤ p) (hB : base ≤ w.heap.size) :
    Calls Tryz.prog 51 #[.pointer (some ⟨p, 0, none⟩), .int .u8 (k.toNat : Int)] w fun e w' => e = .returned (.bool true) ∧ (∃ v', Rd w' p s (n + z) v' (L ++ [fldAt s n k]) base) ∧ Below base w w' := by
  rcases hk with rfl | rfl
  · have h8 : n + 8 ≤ s.length ∧ z = 8 := by
      simp [fsz] at hz
      omega
    obtain ⟨h8, rfl⟩ := h8
    rw [show fldAt s n 110 = (false, val (part s n 8), []) from rfl]
    show Calls Tryz.prog 51 #[.pointer (some ⟨p, 0, none⟩), .int .u8 110] w _
    clear hz
    go_enter Tryz.func51, Tryz.ntmps51
    go_wp2_with fail
    refine (number_yes p n base s v L _ h hs h8 hL hp hB).mono ?_
    rintro e w1 ⟨rfl, h1, hb⟩
    go_wp2
    go_ret
    exact ⟨rfl, h1, hb⟩
  · have h8 : n + 2 ≤ s.length ∧ val (part s n 2) ≤ 4096 ∧ n + 2 + val (part s n 2) ≤ s.length ∧ z = 2 + val (part s n 2) := by
      simp [fsz] at hz
      omega
    obtain ⟨g1, g2, g3, rfl⟩ := h8
    rw [show fldAt s n 116 = (true, 0, part s (n + 2) (val (part s n 2))) from rfl, ← Nat.add_assoc]
    show Calls Tryz.prog 51 #[.pointer (some ⟨p, 0, none⟩), .int .u8 116] w _
    clear hz
    obtain ⟨m, hm⟩ : ∃ m, val (part s n 2) = m := ⟨_, rfl⟩
    rw [hm] at g2 g3 ⊢
    have HM := Lib.hid hm
    clear hm
    go_enter Tryz.func51, Tryz.ntmps51
    go_wp2_with fail
    refine (text_yes p n m base s v L _ h hs g3 g2 HM.out hL hp hB).mono ?_
    rintro e w1 ⟨rfl, h1, hb⟩
    go_wp2
    go_ret
    exact ⟨rfl, h1, hb⟩

set_option maxRecDepth 100000 in
set_option maxHeartbeats 1000000 in
theorem field_none (p n base : Nat) (k : UInt8) (s : List UInt8) (v : Value) (L : List Fld) (w : World) (h : Rd w p s n v L base) (hk : Kind k) (hz : fsz s n k = none) (hs : (s.length : Int) ≤ 9223372036854775807) :
    Calls Tryz.prog 51 #[.pointer (some ⟨p, 0, none⟩), .int .u8 (k.toNat : Int)] w fun e w' => e = .returned (.bool false) ∧ Rd w' p s n v L base ∧ Off p p w w' := by
  rcases hk with rfl | rfl
  · have h8 : s.length < n + 8 := by
      simp [fsz] at hz
      omega
    show Calls Tryz.prog 51 #[.pointer (some ⟨p, 0, none⟩), .int .u8 110] w _
    clear hz
    go_enter Tryz.func51, Tryz.ntmps51
    go_wp2_with fail
    refine (number_no p n base s v L _ h hs h8).mono ?_
    rintro e w1 ⟨rfl, h1, hb⟩
    go_wp2
    go_ret
    exact ⟨rfl, h1, hb⟩
  · have h8 : ¬ (n + 2 ≤ s.length ∧ val (part s n 2) ≤ 4096 ∧ n + 2 + val (part s n 2) ≤ s.length) := by
      intro hc
      simp [fsz] at hz
      omega
    have hT : Calls Tryz.prog 81 #[.pointer (some ⟨p, 0, none⟩)] w fun e w' => e = .returned (.bool false) ∧ Rd w' p s n v L base ∧ Off p p w w' := by
      by_cases g1 : n + 2 ≤ s.length
      · by_cases g2 : val (part s n 2) ≤ 4096
        · exact text_no3 p n _ base s v L w h hs g1 g2 (by omega) rfl
        · exact text_no2 p n _ base s v L w h hs g1 (by omega) rfl
      · exact text_no1 p n base s v L w h hs (by omega)
    show Calls Tryz.prog 51 #[.pointer (some ⟨p, 0, none⟩), .int .u8 116] w _
    clear hz h8
    have HT := Lib.hid hT
    clear hT
    go_enter Tryz.func51, Tryz.ntmps51
    go_wp2_with fail
    refine HT.out.mono ?_
    rintro e w1 ⟨rfl, h1, hb⟩
    go_wp2
    go_ret
    exact ⟨rfl, h1, hb⟩
end Go.Proofs.YtcecjoodlmpgnaaGreat
/- Contracts of areKinds and Split. -/
namespace Go.Proofs.YtcecjoodlmpgnaaGreat
open Go.RowKit

/-- What bytes tell, of kinds that may be: the fields, or where and why not. -/
def splitGo (s : List UInt8) : List UInt8 → Nat → List Fld → List Fld × Nat × Int
  | [], n, acc => if n < s.length then ([], n, 10) else (acc, 0, 0)
  | k :: ks, n, acc => match fsz s n k with
    | none => ([], n, 10)
    | some z => splitGo s ks (n + z) (acc ++ [fldAt s n k])

theorem not_kind {c : UInt8} (h : ¬ Kind c) : ¬ (c.toNat : Int) = 110 ∧ ¬ (c.toNat : Int) = 116 := by
  constructor
  · intro e
    exact h (.inl (UInt8.toNat_inj.1 (Int.ofNat.inj e)))
  · intro e
    exact h (.inr (UInt8.toNat_inj.1 (Int.ofNat.inj e)))

set_option maxRecDepth 100000 in
set_option maxHeartbeats 1000000 in
theorem areKinds_yes (ks : List UInt8) (w : World) (h : ∀ k ∈ ks, Kind k) (hl : (ks.length : Int) ≤ 1048576) :
    Calls Tryz.prog 50 #[.string ⟨ks.toArray⟩] w fun e w' => e = .returned (.bool true) ∧ w = w' := by
  have hz := size_mk ks
  have H := Lib.hid h
  clear h
  go_enter Tryz.func50, Tryz.ntmps50
  go_wp2_with fail
  go_loop [6] (fun iv => ∃ k : Nat, k ≤ ks.length ∧ iv = .int .i64 k) (fun i => ks.length - (intOf i).toNat)
  case atStart => exact ⟨0, Nat.zero_le _, rfl⟩
  case round =>
    obtain ⟨k, hk, rfl⟩ := hrel
    by_cases hlt : k < ks.length
    · have hkd := H.out _ (List.getElem_mem hlt)
      have hget := get_mk ks k (by rw [hz]; exact hlt)
      rcases hkd with hc | hc
      · rw [hc] at hget
        clear hc
        go_wp2
        exact ⟨⟨k + 1, by omega, by go_num⟩, by simp [intOf]; omega⟩
      · rw [hc] at hget
        clear hc
        go_wp2
        exact ⟨⟨k + 1, by omega, by go_num⟩, by simp [intOf]; omega⟩
    · obtain rfl : k = ks.length := by omega
      go_wp2
      go_ret
      exact ⟨rfl, rfl⟩

set_option maxRecDepth 100000 in
set_option maxHeartbeats 1000000 in
theorem areKinds_no (ks : List UInt8) (w : World) (b : Nat) (hb : b < ks.length) (h : ∀ k ∈ ks.take b, Kind k) (hn : ¬ Kind ks[b]) (hl : (ks.length : Int) ≤ 1048576) :
    Calls Tryz.prog 50 #[.string ⟨ks.toArray⟩] w fun e w' => e = .returned (.bool false) ∧ w = w' := by
  have hz := size_mk ks
  have H : Hid (∀ k (hk : k < b), Kind (ks[k]'(Nat.lt_trans hk hb))) := fun k hk => h _ (by rw [List.mem_take_iff_getElem]; exact ⟨k, by omega, rfl⟩)
  have HN := Lib.hid hn
  clear h hn
  go_enter Tryz.func50, Tryz.ntmps50
  go_wp2_with fail
  go_loop [6] (fun iv => ∃ k : Nat, k ≤ b ∧ iv = .int .i64 k) (fun i => b - (intOf i).toNat)
  case atStart => exact ⟨0, Nat.zero_le _, rfl⟩
  case round =>
    obtain ⟨k, hk, rfl⟩ := hrel
    have hkl : k < ks.length := by omega
    have hget := get_mk ks k (by rw [hz]; exact hkl)
    by_cases hlt : k < b
    · have hkd := H.out k hlt
      rcases hkd with hc | hc
      · rw [hc] at hget
        clear hc
        go_wp2
        exact ⟨⟨k + 1, by omega, by go_num⟩, by simp [intOf]; omega⟩
      · rw [hc] at hget
        clear hc
        go_wp2
        exact ⟨⟨k + 1, by omega, by go_num⟩, by simp [intOf]; omega⟩
    · obtain rfl : k = b := by omega
      have hx := HN.out
      obtain ⟨c, hc⟩ : ∃ c, ks[k] = c := ⟨_, rfl⟩
      rw [hc] at hget hx
      clear hc
      obtain ⟨n1, n2⟩ := not_kind hx
      have m1 : ((c.toNat : Int) != 110) = true := by simpa using n1
      have m2 : ((c.toNat : Int) != 116) = true := by simpa using n2
      clear hx
      go_wp2
      go_ret
      exact ⟨rfl, rfl⟩

/-- What Split hands back. -/
def SplitPost (w : World) (R : List Fld × Nat × Int) (e : Ending) (w' : World) : Prop :=
  ∃ A cap, e = .returned (.tuple #[.slice A R.1.length cap, .int .i64 (R.2.1 : Int), .int .i64 R.2.2]) ∧ FR w' A R.1 ∧ R.1.length ≤ cap ∧ Below w.heap.size w w'
theorem fcells_at (L : List Fld) (j : Nat) (h : j < L.length) : (fcells L)[j * 3]? = some (.bool L[j].1) ∧ (fcells L)[j * 3 + 1]? = some (.int .u64 (L[j].2.1 : Int)) ∧ (fcells L)[j * 3 + 2]? = some (.string ⟨L[j].2.2.toArray⟩) := by
  induction L generalizing j with
  | nil => exact absurd h (Nat.not_lt_zero j)
  | cons x L ih =>
    have e : fcells (x :: L) = [.bool x.1, .int .u64 (x.2.1 : Int), .string ⟨x.2.2.toArray⟩] ++ fcells L := by simp [fcells]
    cases j with
    | zero => rw [e]; simp
    | succ j =>
      have h' : j < L.length := by simpa using h
      obtain ⟨h0, h1, h2⟩ := ih j h'
      rw [e]
      refine ⟨?_, ?_, ?_⟩
      · rw [List.getElem?_append_right (by simp; omega), show (j + 1) * 3 - _ = j * 3 by simp; omega]; exact h0
      · rw [List.getElem?_append_right (by simp; omega), show (j + 1) * 3 + 1 - _ = j * 3 + 1 by simp; omega]; exact h1
      · rw [List.getElem?_append_right (by simp; omega), show (j + 1) * 3 + 2 - _ = j * 3 + 2 by simp; omega]; exact h2
theorem fr_own {W : World} {base : Nat} {v : Value} {L : List Fld} (h : W.ownsRow base 71 3 v L.length (fcells L)) : ∃ A cap, v = .slice A L.length cap ∧ FR W A L ∧ L.length ≤ cap := by
  rcases h.2 with ⟨rfl, h0⟩ | ⟨g, cap, cur, rfl, hg, hh, hle, _⟩
  · have : L = [] := List.eq_nil_of_length_eq_zero h0
    subst this
    exact ⟨none, 0, rfl, FR.nil _ _, Nat.le_refl _⟩
  · refine ⟨some ⟨g, 0, none⟩, cap, rfl, fun j hj => ?_, hle⟩
    obtain ⟨h0, h1, h2⟩ := fcells_at L j hj
    refine ⟨g, 0, rfl, ?_, ?_, ?_⟩
    · rw [Nat.zero_add, h.cellAt (j * 3) (by omega)]; exact h0
    · rw [Nat.zero_add, h.cellAt (j * 3 + 1) (by omega)]; exact h1
    · rw [Nat.zero_add, h.cellAt (j * 3 + 2) (by omega)]; exact h2

theorem split_none {s : List UInt8} {ks : List UInt8} {k n : Nat} {acc : List Fld} {R : List Fld × Nat × Int} (hk : k < ks.length) (h : splitGo s (ks.drop k) n acc = R) (hz : fsz s n ks[k] = none) : R = ([], n, 10) := by
  rw [List.drop_eq_getElem_cons hk, splitGo, hz] at h
  exact h.symm
theorem split_some {s : List UInt8} {ks : List UInt8} {k n z : Nat} {acc : List Fld} {R : List Fld × Nat × Int} (hk : k < ks.length) (h : splitGo s (ks.drop k) n acc = R) (hz : fsz s n ks[k] = some z) : splitGo s (ks.drop (k + 1)) (n + z) (acc ++ [fldAt s n ks[k]]) = R := by
  rw [List.drop_eq_getElem_cons hk, splitGo, hz] at h
  exact h

set_option maxRecDepth 100000 in
set_option maxHeartbeats 4000000 in
theorem split_ok (s ks : List UInt8) (w : World) (R : List Fld × Nat × Int) (hR : splitGo s ks 0 [] = R) (h : ∀ k ∈ ks, Kind k) (hl : ks.length ≤ 60) (hs : (s.length : Int) ≤ 9223372036854775807) :
    Calls Tryz.prog 41 #[.string ⟨s.toArray⟩, .string ⟨ks.toArray⟩] w (SplitPost w R) := by
  have hz := size_mk ks
  have H := Lib.hid h
  have HR := Lib.hid hR
  clear h hR
  have hRd : Rd (w.alloc (.cells #[.int .i64 0, .string ⟨s.toArray⟩, .slice none 0 0] 85)) w.heap.size s 0 (.slice none 0 0) [] w.heap.size :=
    ⟨Blk.new _ _ _, World.ownsRow_nil _ _ _ _, Nat.zero_le _⟩
  have HRD := Lib.hid hRd
  clear hRd
  go_enter Tryz.func41, Tryz.ntmps41
  go_wp2_with fail
  refine (areKinds_yes ks _ H.out (by omega)).mono ?_
  rintro e w1 ⟨rfl, rfl⟩
  go_wp2_with fail
  go_loopw [16] (fun iv wr => ∃ (k n : Nat) (v : Value) (acc : List Fld), k ≤ ks.length ∧ iv = .int .i64 k ∧ acc.length = k ∧ Rd wr w.heap.size s n v acc w.heap.size ∧ Hid (splitGo s (ks.drop k) n acc = R) ∧ Below w.heap.size w wr) (fun i _ => ks.length - (intOf i).toNat)
  case atStart => exact ⟨0, 0, _, [], Nat.zero_le _, rfl, rfl, HRD.out, HR, (Below.refl _ _).alloc (Nat.le_refl _) _⟩
  case round =>
    obtain ⟨k, n, v, acc, hk, rfl, hacc, hrd, HS, hb⟩ := hrel
    have HA := Lib.hid hacc
    clear hacc
    by_cases hlt : k < ks.length
    · have hkd := H.out _ (List.getElem_mem hlt)
      have hget := get_mk ks k (by rw [hz]; exact hlt)
      cases hf : fsz s n ks[k] with
      | none =>
        have HN := Lib.hid (split_none hlt HS.out hf)
        have HF := Lib.hid hf
        clear hf
        obtain ⟨c, hc⟩ : ∃ c, ks[k] = c := ⟨_, rfl⟩
        rw [hc] at hget HF hkd
        clear hc
        go_wp2_with fail
        refine (field_none w.heap.size n w.heap.size c s v acc _ hrd hkd HF.out hs).mono ?_
        rintro e w2 ⟨rfl, hrd2, ho⟩
        have P0 := (hrd2.1.at_ (i := 0) rfl).1
        have hb2 : Below w.heap.size w w2 := hb.trans (ho.below (Nat.le_refl _) (Nat.le_refl _) hb.size)
        clear hrd2 ho hb
        go_wp2_with fail
        go_quiet (fail)
        go_wp2
        go_ret3
        rw [HN.out]
        exact ⟨none, 0, rfl, FR.nil _ _, Nat.le_refl _, ⟨hb2.os, hb2.tape, hb2.output, hb2.size, hb2.block⟩⟩
      | some z =>
        have HN := Lib.hid (split_some hlt HS.out hf)
        have HF := Lib.hid hf
        clear hf
        obtain ⟨c, hc⟩ : ∃ c, ks[k] = c := ⟨_, rfl⟩
        rw [hc] at hget HF hkd HN
        clear hc
        go_wp2_with fail
        refine (field_some w.heap.size n z w.heap.size c s v acc _ hrd hkd HF.out hs (by rw [HA.out]; omega) (Nat.le_refl _) hb.size).mono ?_
        rintro e w2 ⟨rfl, ⟨v2, hrd2⟩, hb2⟩
        have hb3 := hb.trans hb2
        go_wp2
        exact ⟨⟨k + 1, n + z, v2, _, by omega, by go_num, by rw [List.length_append, HA.out]; rfl, hrd2, HN, hb3⟩, by simp [intOf]; omega⟩
    · obtain rfl : k = ks.length := by omega
      have hS := HS.out
      rw [List.drop_length, splitGo] at hS
      by_cases hn : n < s.length
      · rw [if_pos hn] at hS
        have HN := Lib.hid hS
        clear hS
        go_wp2_with fail
        refine (done_any w.heap.size n w.heap.size s v acc _ hrd false (by simp; omega)).mono ?_
        rintro e w2 ⟨rfl, q, rfl⟩
        have P0 := ((hrd.drewN q).1.at_ (i := 0) rfl).1
        have hb2 : Below w.heap.size w (wr.drewN q) := ⟨hb.os, hb.tape, hb.output, hb.size, hb.block⟩
        obtain ⟨w2, hw2⟩ : ∃ w2, wr.drewN q = w2 := ⟨_, rfl⟩
        rw [hw2] at P0 hb2 ⊢
        clear hw2 hrd hb
        go_wp2_with fail
        go_quiet (fail)
        go_wp2
        go_ret3
        rw [← HN.out]
        exact ⟨none, 0, rfl, FR.nil _ _, Nat.le_refl _, ⟨hb2.os, hb2.tape, hb2.output, hb2.size, hb2.block⟩⟩
      · rw [if_neg hn] at hS
        have HN := Lib.hid hS
        clear hS
        have hnl : n = s.length := by have := hrd.2.2; omega
        subst hnl
        go_wp2_with fail
        refine (done_any w.heap.size s.length w.heap.size s v acc _ hrd true (by simp)).mono ?_
        rintro e w2 ⟨rfl, q, rfl⟩
        have P2 := ((hrd.drewN q).1.at_ (i := 2) rfl).1
        have hb2 : Below w.heap.size w (wr.drewN q) := ⟨hb.os, hb.tape, hb.output, hb.size, hb.block⟩
        obtain ⟨A, cap, rfl, hF, hc⟩ := fr_own (hrd.drewN q).2.1
        obtain ⟨w2, hw2⟩ : ∃ w2, wr.drewN q = w2 := ⟨_, rfl⟩
        rw [hw2] at P2 hb2 hF ⊢
        clear hw2 hrd hb
        go_wp2
        go_ret3
        rw [← HN.out]
        exact ⟨A, cap, rfl, hF, hc, hb2⟩

set_option maxRecDepth 100000 in
set_option maxHeartbeats 1000000 in
theorem split_bad (s ks : List UInt8) (w : World) (b : Nat) (hb : b < ks.length) (h : ∀ k ∈ ks.take b, Kind k) (hn : ¬ Kind ks[b]) (hl : ks.length ≤ 60) :
    Calls Tryz.prog 41 #[.string ⟨s.toArray⟩, .string ⟨ks.toArray⟩] w (SplitPost w ([], 0, 1)) := by
  have H := Lib.hid h
  have HN := Lib.hid hn
  clear h hn
  go_enter Tryz.func41, Tryz.ntmps41
  go_wp2_with fail
  refine (areKinds_no ks _ b hb H.out HN.out (by omega)).mono ?_
  rintro e w1 ⟨rfl, rfl⟩
  go_wp2
  go_ret3
  exact ⟨none, 0, rfl, FR.nil _ _, Nat.le_refl _, Below.refl _ _⟩
end Go.Proofs.YtcecjoodlmpgnaaGreat
