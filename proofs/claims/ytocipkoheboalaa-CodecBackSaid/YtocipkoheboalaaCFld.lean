/- Contracts of the reader's field. -/
import Derived.Test.YtocipkoheboalaaCText
namespace Go.Proofs.Ytocipkoheboalaa
open Go.RowKit

set_option maxRecDepth 100000 in
set_option maxHeartbeats 1000000 in
theorem text_no1 (p n base : Nat) (s : List UInt8) (v : Value) (L : List Fld) (w : World) (h : Rd w p s n v L base) (hs : (s.length : Int) ≤ 9223372036854775807) (hn : s.length < n + 2) :
    Calls Try.prog 32 #[.pointer (some ⟨p, 0, none⟩)] w fun e w' => e = .returned (.bool false) ∧ Rd w' p s n v L base ∧ Off p p w w' := by
  go_enter Try.func32, Try.ntmps32
  go_wp2_with fail
  refine (has_rd p n base 2 s v L _ h hs false (by simp; omega)).mono ?_
  rintro e w1 ⟨rfl, h1, ho1⟩
  go_wp2
  go_ret
  exact ⟨rfl, h1, ho1⟩

set_option maxRecDepth 100000 in
set_option maxHeartbeats 2000000 in
theorem text_no2 (p n m base : Nat) (s : List UInt8) (v : Value) (L : List Fld) (w : World) (h : Rd w p s n v L base) (hs : (s.length : Int) ≤ 9223372036854775807) (hn : n + 2 ≤ s.length) (hm : 4096 < m) (hv : val (part s n 2) = m) :
    Calls Try.prog 32 #[.pointer (some ⟨p, 0, none⟩)] w fun e w' => e = .returned (.bool false) ∧ Rd w' p s n v L base ∧ Off p p w w' := by
  have hm2 : (m : Int) ≤ 65535 := by have := val_two s n hn; omega
  have HV := Lib.hid hv
  clear hv
  go_enter Try.func32, Try.ntmps32
  go_wp2_with fail
  refine (has_rd p n base 2 s v L _ h hs true (by simp; omega)).mono ?_
  rintro e w1 ⟨rfl, h1, ho1⟩
  have P0 := h1.1.at_ (i := 0) rfl
  have c0 := P0.1
  have Q := Blk.new w1 56 #[.int .i64 (n : Int)]
  have hpq : w1.heap.size ≠ p := by have := h1.1.lt; omega
  have H1 := Lib.hid (h1.alloc (.cells #[.int .i64 (n : Int)] 56))
  clear h h1
  go_wp2_with fail
  refine (rdlow_any p n 2 base s v L _ H1.out hs (by omega) (by omega)).mono ?_
  rw [HV.out]
  rintro e w2 ⟨rfl, h2, ho2⟩
  have q0 := ((ho2.blk Q hpq hpq).at_ (i := 0) rfl).1
  have r0 := h2.1.at_ (i := 0) rfl
  have s0 := r0.1
  have s1 := r0.2
  have H2 := Lib.hid h2
  have HQ := Lib.hid Q
  clear H1 P0 c0 r0 h2 Q
  go_wp2_with fail
  go_ret
  exact ⟨rfl, H2.out.pass (by omega), (((ho1.alloc _).trans ho2).setCell (.inl rfl) _)⟩

set_option maxRecDepth 100000 in
set_option maxHeartbeats 2000000 in
theorem text_no3 (p n m base : Nat) (s : List UInt8) (v : Value) (L : List Fld) (w : World) (h : Rd w p s n v L base) (hs : (s.length : Int) ≤ 9223372036854775807) (hn : n + 2 ≤ s.length) (hm : m ≤ 4096) (hm2 : s.length < n + 2 + m) (hv : val (part s n 2) = m) :
    Calls Try.prog 32 #[.pointer (some ⟨p, 0, none⟩)] w fun e w' => e = .returned (.bool false) ∧ Rd w' p s n v L base ∧ Off p p w w' := by
  have HV := Lib.hid hv
  clear hv
  go_enter Try.func32, Try.ntmps32
  go_wp2_with fail
  refine (has_rd p n base 2 s v L _ h hs true (by simp; omega)).mono ?_
  rintro e w1 ⟨rfl, h1, ho1⟩
  have P0 := h1.1.at_ (i := 0) rfl
  have c0 := P0.1
  have Q := Blk.new w1 56 #[.int .i64 (n : Int)]
  have hpq : w1.heap.size ≠ p := by have := h1.1.lt; omega
  have H1 := Lib.hid (h1.alloc (.cells #[.int .i64 (n : Int)] 56))
  clear h h1
  go_wp2_with fail
  refine (rdlow_any p n 2 base s v L _ H1.out hs (by omega) (by omega)).mono ?_
  rw [HV.out]
  rintro e w2 ⟨rfl, h2, ho2⟩
  have Q2 := ho2.blk Q hpq hpq
  clear H1 P0 c0 Q
  go_wp2_with fail
  refine (has_rd p (n + 2) base m s v L _ h2 hs false (by simp; omega)).mono ?_
  rintro e w3 ⟨rfl, h3, ho3⟩
  have q0 := ((ho3.blk Q2 hpq hpq).at_ (i := 0) rfl).1
  have r0 := h3.1.at_ (i := 0) rfl
  have s0 := r0.1
  have s1 := r0.2
  have H3 := Lib.hid h3
  have HQ := Lib.hid Q2
  clear r0 h3 Q2 h2
  go_wp2_with fail
  go_ret
  exact ⟨rfl, H3.out.pass (by omega), (((ho1.alloc _).trans ho2).trans ho3).setCell (.inl rfl) _⟩

/-- How many bytes the field of a kind has, at a place; none: it may not be. -/
def fsz (s : List UInt8) (n : Nat) (k : UInt8) : Option Nat :=
  if k = 110 then (if n + 8 ≤ s.length then some 8 else none)
  else if n + 2 ≤ s.length ∧ val (part s n 2) ≤ 4096 ∧ n + 2 + val (part s n 2) ≤ s.length then some (2 + val (part s n 2)) else none
/-- The field of a kind at a place. -/
def fldAt (s : List UInt8) (n : Nat) (k : UInt8) : Fld := if k = 110 then (false, val (part s n 8), []) else (true, 0, part s (n + 2) (val (part s n 2)))
/-- A kind. -/
def Kind (k : UInt8) : Prop := k = 110 ∨ k = 116

set_option maxRecDepth 100000 in
set_option maxHeartbeats 1000000 in
theorem field_some (p n z base : Nat) (k : UInt8) (s : List UInt8) (v : Value) (L : List Fld) (w : World) (h : Rd w p s n v L base) (hk : Kind k) (hz : fsz s n k = some z) (hs : (s.length : Int) ≤ 9223372036854775807) (hL : L.length ≤ 64) (hp : base ≤ p) (hB : base ≤ w.heap.size) :
    Calls Try.prog 26 #[.pointer (some ⟨p, 0, none⟩), .int .u8 (k.toNat : Int)] w fun e w' => e = .returned (.bool true) ∧ (∃ v', Rd w' p s (n + z) v' (L ++ [fldAt s n k]) base) ∧ Below base w w' := by
  rcases hk with rfl | rfl
  · have h8 : n + 8 ≤ s.length ∧ z = 8 := by
      simp [fsz] at hz
      omega
    obtain ⟨h8, rfl⟩ := h8
    rw [show fldAt s n 110 = (false, val (part s n 8), []) from rfl]
    show Calls Try.prog 26 #[.pointer (some ⟨p, 0, none⟩), .int .u8 110] w _
    clear hz
    go_enter Try.func26, Try.ntmps26
    go_wp2_with fail
    refine (number_yes p n base s v L _ h hs h8 hL hp hB).mono ?_
    rintro e w1 ⟨rfl, h1, hb⟩
    go_wp2
    go_ret
    exact ⟨rfl, h1, hb⟩
  · have h8 : n + 2 ≤ s.length ∧ val (part s n 2) ≤ 4096 ∧ n + 2 + val (part s n 2) ≤ s.length ∧ z = 2 + val (part s n 2) := by
      simp [fsz] at hz
      omega
    obtain ⟨g1, g2, g3, rfl⟩ := h8
    rw [show fldAt s n 116 = (true, 0, part s (n + 2) (val (part s n 2))) from rfl, ← Nat.add_assoc]
    show Calls Try.prog 26 #[.pointer (some ⟨p, 0, none⟩), .int .u8 116] w _
    clear hz
    obtain ⟨m, hm⟩ : ∃ m, val (part s n 2) = m := ⟨_, rfl⟩
    rw [hm] at g2 g3 ⊢
    have HM := Lib.hid hm
    clear hm
    go_enter Try.func26, Try.ntmps26
    go_wp2_with fail
    refine (text_yes p n m base s v L _ h hs g3 g2 HM.out hL hp hB).mono ?_
    rintro e w1 ⟨rfl, h1, hb⟩
    go_wp2
    go_ret
    exact ⟨rfl, h1, hb⟩

set_option maxRecDepth 100000 in
set_option maxHeartbeats 1000000 in
theorem field_none (p n base : Nat) (k : UInt8) (s : List UInt8) (v : Value) (L : List Fld) (w : World) (h : Rd w p s n v L base) (hk : Kind k) (hz : fsz s n k = none) (hs : (s.length : Int) ≤ 9223372036854775807) :
    Calls Try.prog 26 #[.pointer (some ⟨p, 0, none⟩), .int .u8 (k.toNat : Int)] w fun e w' => e = .returned (.bool false) ∧ Rd w' p s n v L base ∧ Off p p w w' := by
  rcases hk with rfl | rfl
  · have h8 : s.length < n + 8 := by
      simp [fsz] at hz
      omega
    show Calls Try.prog 26 #[.pointer (some ⟨p, 0, none⟩), .int .u8 110] w _
    clear hz
    go_enter Try.func26, Try.ntmps26
    go_wp2_with fail
    refine (number_no p n base s v L _ h hs h8).mono ?_
    rintro e w1 ⟨rfl, h1, hb⟩
    go_wp2
    go_ret
    exact ⟨rfl, h1, hb⟩
  · have h8 : ¬ (n + 2 ≤ s.length ∧ val (part s n 2) ≤ 4096 ∧ n + 2 + val (part s n 2) ≤ s.length) := by
      intro hc
      simp [fsz] at hz
      omega
    have hT : Calls Try.prog 32 #[.pointer (some ⟨p, 0, none⟩)] w fun e w' => e = .returned (.bool false) ∧ Rd w' p s n v L base ∧ Off p p w w' := by
      by_cases g1 : n + 2 ≤ s.length
      · by_cases g2 : val (part s n 2) ≤ 4096
        · exact text_no3 p n _ base s v L w h hs g1 g2 (by omega) rfl
        · exact text_no2 p n _ base s v L w h hs g1 (by omega) rfl
      · exact text_no1 p n base s v L w h hs (by omega)
    show Calls Try.prog 26 #[.pointer (some ⟨p, 0, none⟩), .int .u8 116] w _
    clear hz h8
    have HT := Lib.hid hT
    clear hT
    go_enter Try.func26, Try.ntmps26
    go_wp2_with fail
    refine HT.out.mono ?_
    rintro e w1 ⟨rfl, h1, hb⟩
    go_wp2
    go_ret
    exact ⟨rfl, h1, hb⟩
end Go.Proofs.Ytocipkoheboalaa
