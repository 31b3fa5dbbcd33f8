/- Contracts of Clone, and of the reader's text. -/
import Derived.Test.YtocipkoheboalaaCNum
namespace Go.Proofs.Ytocipkoheboalaa
open Go.RowKit
attribute [local go_sem ↓] Go.wp_at_zero Go.wp_at_succ

set_option maxRecDepth 100000 in
set_option maxHeartbeats 1000000 in
theorem number_no (p n base : Nat) (s : List UInt8) (v : Value) (L : List Fld) (w : World) (h : Rd w p s n v L base) (hs : (s.length : Int) ≤ 9223372036854775807) (hn : s.length < n + 8) :
    Calls Try.prog 33 #[.pointer (some ⟨p, 0, none⟩)] w fun e w' => e = .returned (.bool false) ∧ Rd w' p s n v L base ∧ Off p p w w' := by
  go_enter Try.func33, Try.ntmps33
  go_wp2_with fail
  refine (has_rd p n base 8 s v L _ h hs false (by simp; omega)).mono ?_
  rintro e w1 ⟨rfl, h1, ho1⟩
  go_wp2
  go_ret
  exact ⟨rfl, h1, ho1⟩

/-- 'make([]byte, n)'. -/
theorem make_row (n : Nat) (hn : n ≤ 1099511627776) (W : World) : (Instr.makeSlice 45 (.int .i64 (n : Int)) (.int .i64 (n : Int))).run Try.prog W = .ok (.slice (some ⟨W.heap.size, 0, none⟩) n n) (W.alloc (.cells (row [] n) 5)) := by
  obtain ⟨i1, hi, hz0, hz1, hz2⟩ := info_parts infoU8
  have hb : (i1.bytes : Int) * (n : Int) ≤ 281474976710656 := by rw [hz2]; omega
  have hr := run_make (P := Try.prog) W 45 5 i1 _ Try.underlying45 hi hz0 .i64 .i64 n n (by omega) (by omega) hb (by omega)
  rw [hz1, Int.toNat_natCast, Nat.mul_one, made_row] at hr
  exact hr
/-- The string over a row of bytes that is known whole. -/
theorem string_over (W : World) (g : Nat) (s : List UInt8) (h : Blk W g 5 (row s s.length)) (h0 : s ≠ []) (hl : s.length ≤ 1048576) :
    (Builtin.unsafeString_ #[73, 3] 9 #[.pointer (some ⟨g, 0, none⟩), .int .i64 (s.length : Int)]).run Try.prog W = .ok (.string ⟨s.toArray⟩) (W.freeze ⟨g, 0, none⟩ s.length) := by
  refine Lib.run_unsafeString_row W 73 3 9 5 Try.underlying73 (by kernel_rfl) g s.length (by unfold World.shape?; rw [show W.heap[g]? = _ from h]; simp [row]) s h0 (Nat.le_refl _) (by omega) (fun j x hx => ?_)
  have e : (⟨g, 0, none⟩ : Addr).add j = ⟨g, j, none⟩ := by cases j <;> simp [Addr.add]
  rw [e, h.cell j, row_full]
  simp [hx]

set_option maxRecDepth 100000 in
set_option maxHeartbeats 2000000 in
theorem lclone_any (s : List UInt8) (w : World) (hl : s.length ≤ 1048576) :
    Calls Try.prog 38 #[.string ⟨s.toArray⟩] w fun e w' => e = .returned (.string ⟨s.toArray⟩) ∧ Below w.heap.size w w' := by
  have hz := size_mk s
  by_cases h0 : s = []
  · subst h0
    clear hz
    go_enter Try.func38, Try.ntmps38
    go_wp2
    go_ret
    exact ⟨rfl, Below.refl _ _⟩
  · have hpos : 0 < s.length := List.length_pos_iff.2 h0
    have hmk := make_row s.length (by omega)
    have B0 := Blk.new w 5 (row [] s.length)
    have hcp := copy_row _ w.heap.size s.length [] s B0 (by simp)
    simp only [List.length_nil, Nat.sub_zero, List.nil_append] at hcp
    have B1 : Blk ((w.alloc (.cells (row [] s.length) 5)).setRow w.heap.size (row s s.length)) w.heap.size 5 (row s s.length) := setRow_heap _ _ _ _ _ (0, 0) B0
    have hus := string_over _ w.heap.size s B1 h0 hl
    have hb : Below w.heap.size w ((w.alloc (.cells (row [] s.length) 5)).setRow w.heap.size (row s s.length)) := Below.trans (b := w.alloc (.cells (row [] s.length) 5)) (ba (Below.refl _ _) _) ⟨rfl, rfl, rfl, by simp [World.setRow], fun k hk => setRow_other _ _ _ _ (by omega)⟩
    have HB := Lib.hid hb
    clear B0 B1 hb h0
    go_enter Try.func38, Try.ntmps38
    go_wp2
    go_ret
    exact ⟨rfl, Lib.below_freeze HB.out (p := ⟨w.heap.size, 0, none⟩) (Nat.le_refl _) _⟩

set_option maxRecDepth 100000 in
set_option maxHeartbeats 1000000 in
theorem clone_any (s : List UInt8) (w : World) (hl : s.length ≤ 1048576) :
    Calls Try.prog 37 #[.string ⟨s.toArray⟩] w fun e w' => e = .returned (.string ⟨s.toArray⟩) ∧ Below w.heap.size w w' := by
  go_enter Try.func37, Try.ntmps37
  go_wp2_with fail
  refine (lclone_any s _ hl).mono ?_
  rintro e w1 ⟨rfl, hb⟩
  go_wp2
  go_ret
  exact ⟨rfl, hb⟩

theorem extract_part (s : List UInt8) (a b : Nat) : (⟨s.toArray⟩ : ByteArray).extract a b = ⟨(part s a (b - a)).toArray⟩ := by
  apply ByteArray.ext
  apply Array.toList_inj.1
  rw [Lib.extract_data]
  simp [part]
theorem val_two (s : List UInt8) (n : Nat) (h : n + 2 ≤ s.length) : val (part s n 2) < 65536 := by
  have h1 := val_lt (part s n 2)
  rw [part_len s n 2 h] at h1
  omega
theorem Rd.later {W W1 : World} {p n base : Nat} {s : List UInt8} {v : Value} {L : List Fld} (h : Rd W p s n v L base) (hb : Below W.heap.size W W1) : Rd W1 p s n v L base :=
  ⟨h.1.below hb, h.2.1.kept (row := none) ⟨hb.os, hb.tape, hb.output, hb.size, fun k hk _ => hb.block k hk⟩ (by cases hv : v.ownBlock with | none => exact .inl rfl | some g => exact .inr (by simp)), h.2.2⟩
theorem Rd.alloc {W : World} {p n base : Nat} {s : List UInt8} {v : Value} {L : List Fld} (h : Rd W p s n v L base) (o : Obj) : Rd (W.alloc o) p s n v L base := h.later (ba (Below.refl _ _) o)

set_option maxRecDepth 100000 in
set_option maxHeartbeats 4000000 in
theorem text_yes (p n m base : Nat) (s : List UInt8) (v : Value) (L : List Fld) (w : World) (h : Rd w p s n v L base) (hs : (s.length : Int) ≤ 9223372036854775807) (hn : n + 2 + m ≤ s.length) (hm : m ≤ 4096) (hv : val (part s n 2) = m) (hL : L.length ≤ 64) (hp : base ≤ p) (hB : base ≤ w.heap.size) :
    Calls Try.prog 32 #[.pointer (some ⟨p, 0, none⟩)] w fun e w' => e = .returned (.bool true) ∧ (∃ v', Rd w' p s (n + 2 + m) v' (L ++ [(true, 0, part s (n + 2) m)]) base) ∧ Below base w w' := by
  obtain ⟨ti, hi0, hz0, hz1, hz2⟩ := info_parts infoF
  have HV := Lib.hid hv
  clear hv
  go_enter Try.func32, Try.ntmps32
  go_wp2_with fail
  refine (has_rd p n base 2 s v L _ h hs true (by simp; omega)).mono ?_
  rintro e w1 ⟨rfl, h1, ho1⟩
  have hb1 : Below base w w1 := ho1.below hp hp hB
  have P0 := h1.1.at_ (i := 0) rfl
  have c0 := P0.1
  have H1 := Lib.hid (h1.alloc (.cells #[.int .i64 (n : Int)] 56))
  clear h h1 ho1
  go_wp2_with fail
  refine (rdlow_any p n 2 base s v L _ H1.out hs (by omega) (by omega)).mono ?_
  rw [HV.out]
  rintro e w2 ⟨rfl, h2, ho2⟩
  have hb2 : Below base w w2 := (hb1.alloc (Nat.le_trans hB hb1.size) _).trans (ho2.below hp hp (by simp; have := hb1.size; omega))
  clear H1 ho2 hb1 P0 c0
  go_wp2_with fail
  refine (has_rd p (n + 2) base m s v L _ h2 hs true (by simp; omega)).mono ?_
  rintro e w3 ⟨rfl, h3, ho3⟩
  have hb3 : Below base w w3 := hb2.trans (ho3.below hp hp (Nat.le_trans hB hb2.size))
  clear h2 ho3 hb2
  go_wp2_with fail
  refine (pass_any p ((n + 2 : Nat) : Int) m _ (h3.1.at_ (i := 0) rfl) (by omega) (by omega) (by omega)).mono ?_
  rintro e w4 ⟨rfl, rfl⟩
  have h4 := h3.pass (m := n + 2 + m) hn
  have hb4 : Below base w (w3.setCell ⟨p, 0, none⟩ (.int .i64 ((n + 2 + m : Nat) : Int))) := hb3.setCell (p := ⟨p, 0, none⟩) hp _
  have ew : ((n + 2 : Nat) : Int) + m = ((n + 2 + m : Nat) : Int) := by omega
  rw [ew]
  obtain ⟨w5, hw5⟩ : ∃ w5, w3.setCell ⟨p, 0, none⟩ (.int .i64 ((n + 2 + m : Nat) : Int)) = w5 := ⟨_, rfl⟩
  rw [hw5] at h4 hb4 ⊢
  clear hw5 h3 hb3 ew
  obtain ⟨a, ha⟩ : ∃ a, n + 2 = a := ⟨_, rfl⟩
  rw [ha] at h4 hn ⊢
  obtain ⟨b, hb⟩ : ∃ b, a + m = b := ⟨_, rfl⟩
  rw [hb] at h4 hn
  have hex := extract_part s a b
  rw [show b - a = m by omega] at hex
  obtain ⟨S, hS⟩ : ∃ S, part s a m = S := ⟨_, rfl⟩
  have hSl : S.length = m := by rw [← hS]; exact part_len s a m (by omega)
  rw [hS] at hex
  have p0 := (h4.1.at_ (i := 0) rfl).1
  have p1 := (h4.1.at_ (i := 1) rfl).1
  have p2 := (h4.1.at_ (i := 2) rfl).1
  have hz := size_mk s
  have i0 : (0 : Int) ≤ (a : Int) := by omega
  have i1 : (a : Int) ≤ (b : Int) := by omega
  have i2 : (b : Int) ≤ (s.length : Int) := by omega
  have HA := Lib.hid ha
  have HBB := Lib.hid hb
  have HS := Lib.hid hS
  have HSL := Lib.hid hSl
  have H4 := Lib.hid h4
  have HB5 : base ≤ w5.heap.size := Nat.le_trans hB hb4.size
  clear ha hb hS hSl h4
  go_wp2_with fail
  go_region_law (first
    | (refine step_append_lies _ (by rfl) _ _ _ (by rfl) base 33 ti _ 3 32 Try.underlying23 hi0 hz0 hz1 hz2 rfl (by omega) v L.length (fcells L) (by rfl) (h6.2.1.alloc (.cells #[.bool true, .int .u64 0, .string ⟨S.toArray⟩] 33)) ⟨w6.heap.size, 0, none⟩ 1 1 [.bool true, .int .u64 0, .string ⟨S.toArray⟩] (by rfl) (by rfl) (World.news_of_block (cs := #[.bool true, .int .u64 0, .string ⟨S.toArray⟩]) (t := 33) (fr := (0, 0)) (heap_alloc_new w6 _)) (by simp [Value.oneCell']) (by omega) (by unfold maxLen; omega) (by omega) (by simp; omega) (w6.heap.size + 1) (by simp) ?_; intro gg cap w7 hown7 hgrow hat hlt; have B7 := (h6.1.alloc (.cells #[.bool true, .int .u64 0, .string ⟨S.toArray⟩] 33)).grown hgrow (Ne.symm h6.row); have e0 := (B7.at_ (i := 0) rfl).1; have e1 := (B7.at_ (i := 1) rfl).1; have e2 := (B7.at_ (i := 2) rfl).1; have f2 := B7.frozen 2)
    | (go_simp; go_at_call 37; refine (clone_any S _ (by rw [HSL.out]; omega)).mono ?_; rintro e w6 ⟨rfl, hb6⟩; have h6 := (H4.out.drewN 1).later hb6; have HB6 : base ≤ w6.heap.size := Nat.le_trans HB5 hb6.size; have c0 := (h6.1.at_ (i := 0) rfl).1; have c1 := (h6.1.at_ (i := 1) rfl).1; have c2 := (h6.1.at_ (i := 2) rfl).1; have d2 := ((h6.1.alloc (.cells #[.bool true, .int .u64 0, .string ⟨S.toArray⟩] 33)).at_ (i := 2) rfl).1))
  all_goals
    have hb6' : Below base w w6 := Below.trans (b := w5.drewN 1) ⟨hb4.os, hb4.tape, hb4.output, hb4.size, hb4.block⟩ (hb6.mono HB5)
    have hb7 : Below base w w7 := (hb6'.alloc HB6 _).grown hgrow (by simp; omega) (fun k e => (h6.2.1.lt k e).1)
    have hR := Rd.more (x := (true, 0, S)) h6 hown7 B7
    go_wp2
    go_ret
    rw [HA.out, HBB.out, HS.out]
    exact ⟨rfl, ⟨_, hR⟩, hb7.setCell (p := ⟨p, 2, none⟩) hp _⟩
end Go.Proofs.Ytocipkoheboalaa
