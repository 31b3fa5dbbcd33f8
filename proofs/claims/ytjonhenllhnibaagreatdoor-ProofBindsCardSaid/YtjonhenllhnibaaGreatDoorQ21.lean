/- Texts of this seat, one behind the other: PMay, PEq, PRefA. -/
import Derived.Deep.RegionHeld3
import Derived.Test.YtjonhenllhnibaaGreatDoorQ15
import Derived.Test.YtjonhenllhnibaaGreatDoorQ18
import Derived.Test.YtjonhenllhnibaaGreatDoorQ20
/- The contracts of package proof's isNoLabel, isNoRow, areRows and mayBe; slices.IndexFunc, ContainsFunc over the first two. -/
namespace Go.Proofs.YtjonhenllhnibaaGreatDoor
open Go.RowKit

set_option maxRecDepth 100000 in
set_option maxHeartbeats 1000000 in
theorem pisno_any (l : List UInt8) (w : World) :
    Calls Tryz.prog 110 #[sv l] w fun e w' => e = .returned (.bool (decide (l.length ≠ 32))) ∧ w = w' := by
  have hz := isize l
  go_enter Tryz.func110, Tryz.ntmps110
  by_cases h : l.length = 32
  · have e : decide (l.length ≠ 32) = false := by simp [h]
    have e2 : ((l.length : Int) != 32) = false := by simp; omega
    rw [e]
    clear e
    go_wp2
    go_ret
    exact ⟨rfl, rfl⟩
  · have e : decide (l.length ≠ 32) = true := by simp [h]
    have e2 : ((l.length : Int) != 32) = true := by simp; omega
    rw [e]
    clear e
    go_wp2
    go_ret
    exact ⟨rfl, rfl⟩

set_option maxRecDepth 100000 in
set_option maxHeartbeats 1000000 in
theorem pindex_any (A : Option Addr) (n c : Nat) (L : List (List UInt8)) (w : World) (hA : SR w A L) (hl : L.length = n) (hn : n ≤ 65536) :
    Calls Tryz.prog 129 #[.slice A n c, .func (.func 110) #[] #[]] w fun e w' => ∃ z : Int, e = .returned (.int .i64 z) ∧ -1 ≤ z ∧ z ≤ 65536 ∧ (0 ≤ z ↔ YNo L) ∧ w = w' := by
  have HR := Lib.hid (fun j (hj : j < n) => hA j (by omega))
  have HN := Lib.hid (fun l => pisno_any l w)
  have HL := Lib.hid hl
  clear hA hl
  go_enter Tryz.func129, Tryz.ntmps129
  go_wp2_with fail
  go_loopw [8] (fun iv wr => ∃ j : Nat, j ≤ n ∧ iv = .int .i64 (j : Int) ∧ wr = w ∧ Hid (∀ t, t < j → (L.getD t []).length = 32)) (fun i _ => n - (intOf i).toNat)
  case atStart => exact ⟨0, Nat.zero_le _, rfl, rfl, Lib.hid fun t ht => absurd ht (Nat.not_lt_zero _)⟩
  case round =>
    obtain ⟨j, hj, rfl, rfl, HA⟩ := hrel
    by_cases hlt : j < n
    · obtain ⟨g, off, rfl, c0⟩ := HR.out j hlt
      have HNj := Lib.hid (HN.out (L.getD j []))
      have HAJ : Hid ((L.getD j []).length = 32 → ∀ t, t < j + 1 → (L.getD t []).length = 32) := Lib.hid fun h t ht => by
        rcases Nat.lt_or_ge t j with h2 | h2
        · exact HA.out t h2
        · obtain rfl : t = j := by omega
          exact h
      have HX : Hid ((L.getD j []).length ≠ 32 → YNo L) := Lib.hid fun h => ⟨j, by rw [HL.out]; exact hlt, h⟩
      generalize L.getD j [] = x at c0 HNj HAJ HX
      have i0 : (0 : Int) ≤ (j : Int) := by omega
      have i1 : (j : Int) < (n : Int) := by omega
      go_wp2_with fail
      refine HNj.out.mono ?_
      rintro e w1 ⟨rfl, rfl⟩
      by_cases hx : x.length = 32
      · have e : decide (x.length ≠ 32) = false := by simp [hx]
        have HA2 := Lib.hid (HAJ.out hx)
        rw [e]
        clear e hx HX HAJ
        go_wp2_with fail
        exact ⟨⟨j + 1, by omega, by go_num, by trivial, HA2⟩, by simp [intOf]; omega⟩
      · have e : decide (x.length ≠ 32) = true := by simp [hx]
        have HX2 := Lib.hid (HX.out hx)
        rw [e]
        clear e hx HX HAJ
        go_wp2
        go_ret
        exact ⟨_, rfl, by omega, by omega, ⟨fun _ => HX2.out, fun _ => by omega⟩, rfl⟩
    · obtain rfl : j = n := by omega
      have HE : Hid (¬ YNo L) := Lib.hid fun ⟨t, h1, h2⟩ => h2 (HA.out t (by rw [← HL.out]; exact h1))
      go_wp2
      go_ret
      exact ⟨_, rfl, by omega, by omega, ⟨fun h => absurd h (by omega), fun h => absurd h HE.out⟩, rfl⟩

set_option maxRecDepth 100000 in
set_option maxHeartbeats 1000000 in
theorem pcontains_any (A : Option Addr) (n c : Nat) (L : List (List UInt8)) (w : World) (hA : SR w A L) (hl : L.length = n) (hn : n ≤ 65536) :
    Calls Tryz.prog 109 #[.slice A n c, .func (.func 110) #[] #[]] w fun e w' => ∃ b : Bool, e = .returned (.bool b) ∧ (b = true ↔ YNo L) ∧ w = w' := by
  have T := Lib.hid (pindex_any A n c L w hA hl hn)
  clear hA hl
  go_enter Tryz.func109, Tryz.ntmps109
  go_wp2_with fail
  refine T.out.mono ?_
  rintro e w1 ⟨z, rfl, h1, h2, hz, rfl⟩
  go_wp2
  go_ret
  exact ⟨_, rfl, by simpa using hz, rfl⟩

set_option maxRecDepth 100000 in
set_option maxHeartbeats 1000000 in
theorem pnorow_any (A : Option Addr) (n c : Nat) (L : List (List UInt8)) (w : World) (hA : SR w A L) (hl : L.length = n) (hn : n ≤ 65536) :
    Calls Tryz.prog 86 #[.slice A n c] w fun e w' => e = .returned (.bool (decide (¬ PRow L))) ∧ w = w' := by
  have T := Lib.hid (pcontains_any A n c L w hA hl hn)
  by_cases h : n ≤ 64
  · have HP : Hid (PRow L ↔ ¬ YNo L) := Lib.hid (by
      rw [prow_iff (by omega)]
      constructor
      · rintro h1 ⟨j, h2, h3⟩; exact h3 (h1 j h2)
      · intro h1 j h2
        apply Classical.byContradiction
        intro h3
        exact h1 ⟨j, h2, h3⟩)
    clear hA hl
    have i1 : ¬ (64 : Int) < (n : Int) := by omega
    go_enter Tryz.func86, Tryz.ntmps86
    go_wp2_with fail
    refine T.out.mono ?_
    rintro e w1 ⟨b, rfl, hb, rfl⟩
    have HB : Hid (b = decide (¬ PRow L)) := Lib.hid (by
      cases b with
      | true => exact (decide_eq_true (by rw [HP.out]; exact fun h1 => h1 (hb.1 rfl))).symm
      | false =>
        refine (decide_eq_false ?_).symm
        rw [HP.out]
        exact fun h1 => h1 fun h2 => by have := hb.2 h2; cases this)
    clear HP hb
    go_wp2
    go_ret
    rw [HB.out]
    exact ⟨rfl, rfl⟩
  · have HP : Hid (decide (¬ PRow L) = true) := Lib.hid (decide_eq_true fun h1 => h (by have := h1.1; omega))
    rw [HP.out]
    clear hA hl T HP
    go_enter Tryz.func86, Tryz.ntmps86
    go_wp2
    go_ret
    exact ⟨rfl, rfl⟩

set_option maxRecDepth 100000 in
set_option maxHeartbeats 1000000 in
theorem pindexr_any (A : Option Addr) (n c : Nat) (G : List (List (List UInt8))) (w : World) (hA : LR w A G) (hl : G.length = n) (hn : n ≤ 65536) (hG : ∀ j, (G.getD j []).length ≤ 65536) :
    Calls Tryz.prog 108 #[.slice A n c, .func (.func 86) #[] #[]] w fun e w' => ∃ z : Int, e = .returned (.int .i64 z) ∧ -1 ≤ z ∧ z ≤ 65536 ∧ (0 ≤ z ↔ PNo G) ∧ w = w' := by
  have HR := Lib.hid (fun j (hj : j < n) => hA j (by omega))
  have HN := Lib.hid (fun j B d (h : SR w B (G.getD j [])) => pnorow_any B (G.getD j []).length d (G.getD j []) w h rfl (hG j))
  have HL := Lib.hid hl
  clear hA hl hG
  go_enter Tryz.func108, Tryz.ntmps108
  go_wp2_with fail
  go_loopw [8] (fun iv wr => ∃ j : Nat, j ≤ n ∧ iv = .int .i64 (j : Int) ∧ wr = w ∧ Hid (∀ t, t < j → PRow (G.getD t []))) (fun i _ => n - (intOf i).toNat)
  case atStart => exact ⟨0, Nat.zero_le _, rfl, rfl, Lib.hid fun t ht => absurd ht (Nat.not_lt_zero _)⟩
  case round =>
    obtain ⟨j, hj, rfl, rfl, HA⟩ := hrel
    by_cases hlt : j < n
    · obtain ⟨g, off, B, d, rfl, c0, _, hS⟩ := HR.out j hlt
      have HNj := Lib.hid (HN.out j B d hS)
      clear hS
      have HAJ : Hid (PRow (G.getD j []) → ∀ t, t < j + 1 → PRow (G.getD t [])) := Lib.hid fun h t ht => by
        rcases Nat.lt_or_ge t j with h2 | h2
        · exact HA.out t h2
        · obtain rfl : t = j := by omega
          exact h
      have HX : Hid (¬ PRow (G.getD j []) → PNo G) := Lib.hid fun h => ⟨j, by rw [HL.out]; exact hlt, h⟩
      generalize G.getD j [] = x at c0 HNj HAJ HX
      have i0 : (0 : Int) ≤ (j : Int) := by omega
      have i1 : (j : Int) < (n : Int) := by omega
      go_wp2_with fail
      refine HNj.out.mono ?_
      rintro e w1 ⟨rfl, rfl⟩
      by_cases hx : PRow x
      · have e : decide (¬ PRow x) = false := decide_eq_false fun h => h hx
        have HA2 := Lib.hid (HAJ.out hx)
        rw [e]
        clear e hx HX HAJ
        go_wp2_with fail
        exact ⟨⟨j + 1, by omega, by go_num, by trivial, HA2⟩, by simp [intOf]; omega⟩
      · have e : decide (¬ PRow x) = true := decide_eq_true hx
        have HX2 := Lib.hid (HX.out hx)
        rw [e]
        clear e hx HX HAJ
        go_wp2
        go_ret
        exact ⟨_, rfl, by omega, by omega, ⟨fun _ => HX2.out, fun _ => by omega⟩, rfl⟩
    · obtain rfl : j = n := by omega
      have HE : Hid (¬ PNo G) := Lib.hid fun ⟨t, h1, h2⟩ => h2 (HA.out t (by rw [← HL.out]; exact h1))
      go_wp2
      go_ret
      exact ⟨_, rfl, by omega, by omega, ⟨fun h => absurd h (by omega), fun h => absurd h HE.out⟩, rfl⟩

set_option maxRecDepth 100000 in
set_option maxHeartbeats 1000000 in
theorem pcontainsr_any (A : Option Addr) (n c : Nat) (G : List (List (List UInt8))) (w : World) (hA : LR w A G) (hl : G.length = n) (hn : n ≤ 65536) (hG : ∀ j, (G.getD j []).length ≤ 65536) :
    Calls Tryz.prog 85 #[.slice A n c, .func (.func 86) #[] #[]] w fun e w' => ∃ b : Bool, e = .returned (.bool b) ∧ (b = true ↔ PNo G) ∧ w = w' := by
  have T := Lib.hid (pindexr_any A n c G w hA hl hn hG)
  clear hA hl
  go_enter Tryz.func85, Tryz.ntmps85
  go_wp2_with fail
  refine T.out.mono ?_
  rintro e w1 ⟨z, rfl, h1, h2, hz, rfl⟩
  go_wp2
  go_ret
  exact ⟨_, rfl, by simpa using hz, rfl⟩

set_option maxRecDepth 100000 in
set_option maxHeartbeats 1000000 in
theorem parerows_any (A : Option Addr) (n c : Nat) (G : List (List (List UInt8))) (w : World) (hA : LR w A G) (hl : G.length = n) (hn : n ≤ 65536) (hG : ∀ j, (G.getD j []).length ≤ 65536) :
    Calls Tryz.prog 61 #[.slice A n c] w fun e w' => e = .returned (.bool (decide (PRt G))) ∧ w = w' := by
  have T := Lib.hid (pcontainsr_any A n c G w hA hl hn hG)
  by_cases h : n = 8
  · have HP : Hid (PRt G ↔ ¬ PNo G) := Lib.hid (prt_iff (by omega))
    subst h
    clear hA hl hG
    go_enter Tryz.func61, Tryz.ntmps61
    go_wp2_with fail
    refine T.out.mono ?_
    rintro e w1 ⟨b, rfl, hb, rfl⟩
    have HB : Hid ((!b) = decide (PRt G)) := Lib.hid (by
      cases b with
      | true => exact (decide_eq_false (by rw [HP.out]; exact fun h1 => h1 (hb.1 rfl))).symm
      | false => exact (decide_eq_true (by rw [HP.out]; exact fun h2 => by have := hb.2 h2; cases this)).symm)
    clear HP hb
    go_wp2
    go_ret
    rw [HB.out]
    exact ⟨rfl, rfl⟩
  · have HP : Hid (decide (PRt G) = false) := Lib.hid (decide_eq_false fun h1 => h (by have := h1.1; omega))
    have h2 : ((n : Int) == 8) = false := by simp; omega
    rw [HP.out]
    clear hA hl hG T HP h
    go_enter Tryz.func61, Tryz.ntmps61
    go_wp2
    go_ret
    exact ⟨rfl, rfl⟩

/-- A proof's value. -/
abbrev pfv (A : Option Addr) (n c : Nat) (B : Option Addr) (m d : Nat) : Value := .agg #[.slice A n c, .slice B m d]
set_option maxRecDepth 100000 in
set_option maxHeartbeats 1000000 in
theorem pmay_any (A B : Option Addr) (n c m d : Nat) (G F : List (List (List UInt8))) (w : World) (hA : LR w A G) (hB : LR w B F) (hl : G.length = n) (hm : F.length = m) (hn : n ≤ 65536) (hn2 : m ≤ 65536) (hG : ∀ j, (G.getD j []).length ≤ 65536) (hF : ∀ j, (F.getD j []).length ≤ 65536) :
    Calls Tryz.prog 40 #[pfv A n c B m d] w fun e w' => e = .returned (.bool (decide (PRt G ∧ PRt F))) ∧ Below w.heap.size w w' := by
  have hb0 := ba (Below.refl w.heap.size w) (.cells #[.slice A n c, .slice B m d] 26)
  have T1 := Lib.hid (parerows_any A n c G _ (hA.later hb0) hl hn hG)
  have T2 := Lib.hid (parerows_any B m d F _ (hB.later hb0) hm hn2 hF)
  have e : decide (PRt G ∧ PRt F) = (decide (PRt G) && decide (PRt F)) := by by_cases h1 : PRt G <;> by_cases h2 : PRt F <;> simp [h1, h2]
  rw [e]
  have k1 := (Blk.new w 26 #[.slice A n c, .slice B m d]).cell 1
  have k0 := (Blk.new w 26 #[.slice A n c, .slice B m d]).cell 0
  simp only [List.getElem?_toArray, List.getElem?_cons_zero, List.getElem?_cons_succ] at k0 k1
  clear e hA hB hl hm hG hF
  generalize decide (PRt F) = q at *
  cases hq : decide (PRt G) with
  | true =>
    rw [hq] at T1
    clear hq
    go_enter Tryz.func40, Tryz.ntmps40
    go_wp2_with fail
    refine T1.out.mono ?_
    rintro e w1 ⟨rfl, rfl⟩
    go_wp2_with fail
    refine T2.out.mono ?_
    rintro e w1 ⟨rfl, rfl⟩
    go_wp2
    go_ret
    exact ⟨rfl, hb0⟩
  | false =>
    rw [hq] at T1
    clear hq T2
    go_enter Tryz.func40, Tryz.ntmps40
    go_wp2_with fail
    refine T1.out.mono ?_
    rintro e w1 ⟨rfl, rfl⟩
    go_wp2
    go_ret
    exact ⟨rfl, hb0⟩
end Go.Proofs.YtjonhenllhnibaaGreatDoor
/- The contracts of slices.Equal of two rows of texts, of the closure in Like, of slices.EqualFunc over it, and of package proof's Like. -/
namespace Go.Proofs.YtjonhenllhnibaaGreatDoor
open Go.RowKit

set_option maxRecDepth 100000 in
set_option maxHeartbeats 4000000 in
theorem peqs_any (A B : Option Addr) (c d n m : Nat) (L M : List (List UInt8)) (w : World) (hA : SR w A L) (hB : SR w B M) (hl : L.length = n) (hm : M.length = m) (hn : n ≤ 65536) (hn2 : m ≤ 65536) :
    Calls Tryz.prog 33 #[.slice A n c, .slice B m d] w fun e w' => e = .returned (.bool (decide (L = M))) ∧ Below w.heap.size w w' := by
  have HA := Lib.hid hA
  have HB := Lib.hid hB
  have HL := Lib.hid hl
  have HM := Lib.hid hm
  clear hA hB hl hm
  by_cases hnm : n = m
  · subst hnm
    clear hn2
    go_enter Tryz.func33, Tryz.ntmps33
    go_wp2_with fail
    go_loopw [13] (fun iv wr => ∃ k : Nat, k ≤ n ∧ iv = .int .i64 k ∧ Hid (∀ j, j < k → L.getD j [] = M.getD j []) ∧ Below w.heap.size w wr) (fun i _ => n - (intOf i).toNat)
    case atStart => exact ⟨0, Nat.zero_le _, rfl, Lib.hid (fun j hj => absurd hj (Nat.not_lt_zero j)), Below.refl _ _⟩
    case round =>
      obtain ⟨k, hk, rfl, HE, hb⟩ := hrel
      by_cases hlt : k < n
      · obtain ⟨g, off, rfl, c0⟩ := (HA.out.later hb) k (by rw [HL.out]; exact hlt)
        obtain ⟨g', off', rfl, d0⟩ := (HB.out.later hb) k (by rw [HM.out]; exact hlt)
        have i0 : (0 : Int) ≤ (k : Int) := by omega
        have i1 : (k : Int) < (n : Int) := by omega
        by_cases hxy : L.getD k [] = M.getD k []
        · have HE2 : Hid (∀ j, j < k + 1 → L.getD j [] = M.getD j []) := Lib.hid (fun j hj => by
            by_cases e : j = k
            · rw [e]; exact hxy
            · exact HE.out j (by omega))
          rw [← hxy] at d0
          clear hxy
          generalize L.getD k [] = x at c0 d0
          go_wp2_with fail
          go_quiet (fail)
          go_wp2
          exact ⟨⟨k + 1, by omega, by go_num, HE2, bdn' hb _⟩, by simp [intOf]; omega⟩
        · have HN : Hid (decide (L = M) = false) := Lib.hid (by simp; intro e; exact hxy (by rw [e]))
          have hx : (L.getD k [] == M.getD k []) = false := by simp only [beq_eq_false_iff_ne]; exact hxy
          clear hxy
          generalize L.getD k [] = x at c0 hx
          generalize M.getD k [] = y at d0 hx
          have hx2 : (x != y) = true := by simp [bne, hx]
          go_wp2_with fail
          go_quiet (fail)
          go_wp2
          go_ret
          rw [HN.out]
          exact ⟨rfl, bdn' hb _⟩
      · obtain rfl : k = n := by omega
        have HY : Hid (decide (L = M) = true) := Lib.hid (by simp; exact jgetD_ext HL.out HM.out HE.out)
        go_wp2
        go_ret
        rw [HY.out]
        exact ⟨rfl, hb⟩
  · have HN : Hid (decide (L = M) = false) := Lib.hid (by simp; intro e; exact hnm (by rw [← HL.out, ← HM.out, e]))
    have h1 : (n == m) = false := by simp; exact hnm
    have h2 : ((n : Int) == (m : Int)) = false := by simp; omega
    have h3 : ((n : Int) != (m : Int)) = true := by simp; omega
    clear hnm
    go_enter Tryz.func33, Tryz.ntmps33
    go_wp2_with fail
    go_ret
    rw [HN.out]
    exact ⟨rfl, Below.refl _ _⟩

set_option maxRecDepth 100000 in
set_option maxHeartbeats 1000000 in
theorem plc_any (A B : Option Addr) (c d n m : Nat) (L M : List (List UInt8)) (w : World) (hA : SR w A L) (hB : SR w B M) (hl : L.length = n) (hm : M.length = m) (hn : n ≤ 65536) (hn2 : m ≤ 65536) :
    Calls Tryz.prog 32 #[.slice A n c, .slice B m d] w fun e w' => e = .returned (.bool (decide (L = M))) ∧ Below w.heap.size w w' := by
  have T := Lib.hid (peqs_any A B c d n m L M w hA hB hl hm hn hn2)
  clear hA hB hl hm
  generalize decide (L = M) = q at *
  go_enter Tryz.func32, Tryz.ntmps32
  go_wp2_with fail
  refine T.out.mono ?_
  rintro e w1 ⟨rfl, hb1⟩
  go_wp2
  go_ret
  exact ⟨rfl, hb1⟩

theorem prows_ext {G F : List (List (List UInt8))} {n : Nat} (hl : G.length = n) (hm : F.length = n) (h : ∀ j, j < n → G.getD j [] = F.getD j []) : G = F := by
  apply List.ext_getElem
  · rw [hl, hm]
  · intro i h1 h2
    have := h i (by omega)
    simpa [List.getD, h1, h2] using this

set_option maxRecDepth 100000 in
set_option maxHeartbeats 4000000 in
theorem peqf_any (A B : Option Addr) (c d n m : Nat) (G F : List (List (List UInt8))) (w : World) (hA : LR w A G) (hB : LR w B F) (hl : G.length = n) (hm : F.length = m) (hn : n ≤ 65536) (hn2 : m ≤ 65536) (hG : ∀ j, (G.getD j []).length ≤ 65536) (hF : ∀ j, (F.getD j []).length ≤ 65536) :
    Calls Tryz.prog 34 #[.slice A n c, .slice B m d, .func (.func 32) #[] #[]] w fun e w' => e = .returned (.bool (decide (G = F))) ∧ Below w.heap.size w w' := by
  have HA := Lib.hid hA
  have HB := Lib.hid hB
  have HL := Lib.hid hl
  have HM := Lib.hid hm
  have HX := Lib.hid hG
  have HY := Lib.hid hF
  clear hA hB hl hm hG hF
  by_cases hnm : n = m
  · subst hnm
    clear hn2
    go_enter Tryz.func34, Tryz.ntmps34
    go_wp2_with fail
    go_loopw [17] (fun iv wr => ∃ k : Nat, k ≤ n ∧ iv = .int .i64 k ∧ Hid (∀ j, j < k → G.getD j [] = F.getD j []) ∧ Below w.heap.size w wr) (fun i _ => n - (intOf i).toNat)
    case atStart => exact ⟨0, Nat.zero_le _, rfl, Lib.hid (fun j hj => absurd hj (Nat.not_lt_zero j)), Below.refl _ _⟩
    case round =>
      obtain ⟨k, hk, rfl, HE, hb⟩ := hrel
      by_cases hlt : k < n
      · obtain ⟨g, off, B1, d1, rfl, c0, _, hS⟩ := (HA.out.later hb) k (by rw [HL.out]; exact hlt)
        obtain ⟨g', off', B2, d2, rfl, d0, _, hT⟩ := (HB.out.later hb) k (by rw [HM.out]; exact hlt)
        have T := Lib.hid (plc_any B1 B2 d1 d2 _ _ (G.getD k []) (F.getD k []) wr hS hT rfl rfl (HX.out k) (HY.out k))
        have i0 : (0 : Int) ≤ (k : Int) := by omega
        have i1 : (k : Int) < (n : Int) := by omega
        clear hS hT
        by_cases hxy : G.getD k [] = F.getD k []
        · have HE2 : Hid (∀ j, j < k + 1 → G.getD j [] = F.getD j []) := Lib.hid (fun j hj => by
            by_cases e : j = k
            · rw [e]; exact hxy
            · exact HE.out j (by omega))
          rw [decide_eq_true hxy] at T
          clear hxy
          go_wp2_with fail
          refine T.out.mono ?_
          rintro e w1 ⟨rfl, hb1⟩
          go_wp2_with fail
          exact ⟨⟨k + 1, by omega, by go_num, HE2, bt hb hb1⟩, by simp [intOf]; omega⟩
        · have HN : Hid (decide (G = F) = false) := Lib.hid (by simp; intro e; exact hxy (by rw [e]))
          rw [decide_eq_false hxy] at T
          clear hxy
          go_wp2_with fail
          refine T.out.mono ?_
          rintro e w1 ⟨rfl, hb1⟩
          go_wp2
          go_ret
          rw [HN.out]
          exact ⟨rfl, bt hb hb1⟩
      · obtain rfl : k = n := by omega
        have HZ : Hid (decide (G = F) = true) := Lib.hid (by simp; exact prows_ext HL.out HM.out HE.out)
        go_wp2
        go_ret
        rw [HZ.out]
        exact ⟨rfl, hb⟩
  · have HN : Hid (decide (G = F) = false) := Lib.hid (by simp; intro e; exact hnm (by rw [← HL.out, ← HM.out, e]))
    have h1 : (n == m) = false := by simp; exact hnm
    have h2 : ((n : Int) == (m : Int)) = false := by simp; omega
    have h3 : ((n : Int) != (m : Int)) = true := by simp; omega
    clear hnm
    go_enter Tryz.func34, Tryz.ntmps34
    go_wp2_with fail
    go_ret
    rw [HN.out]
    exact ⟨rfl, Below.refl _ _⟩

set_option maxRecDepth 100000 in
set_option maxHeartbeats 2000000 in
/-- Like, of any two proofs that can be read. -/
theorem plike_any (A1 A2 B1 B2 : Option Addr) (c1 c2 d1 d2 n1 n2 m1 m2 : Nat) (S T C D : List (List (List UInt8))) (w : World) (hA1 : LR w A1 S) (hA2 : LR w A2 T) (hB1 : LR w B1 C) (hB2 : LR w B2 D) (hS : S.length = n1) (hT : T.length = n2) (hC : C.length = m1) (hD : D.length = m2) (hn1 : n1 ≤ 65536) (hn2 : n2 ≤ 65536) (hm1 : m1 ≤ 65536) (hm2 : m2 ≤ 65536)
    (xS : ∀ j, (S.getD j []).length ≤ 65536) (xT : ∀ j, (T.getD j []).length ≤ 65536) (xC : ∀ j, (C.getD j []).length ≤ 65536) (xD : ∀ j, (D.getD j []).length ≤ 65536) :
    Calls Tryz.prog 9 #[pfv A1 n1 c1 B1 m1 d1, pfv A2 n2 c2 B2 m2 d2] w fun e w' => e = .returned (.bool (decide (S = T ∧ C = D))) ∧ Below w.heap.size w w' := by
  have HE := Lib.hid (fun W (hb : Below w.heap.size w W) => peqf_any A1 A2 c1 c2 n1 n2 S T W (hA1.later hb) (hA2.later hb) hS hT hn1 hn2 xS xT)
  have HF := Lib.hid (fun W (hb : Below w.heap.size w W) => peqf_any B1 B2 d1 d2 m1 m2 C D W (hB1.later hb) (hB2.later hb) hC hD hm1 hm2 xC xD)
  have hd : decide (S = T ∧ C = D) = (decide (S = T) && decide (C = D)) := by by_cases h1 : S = T <;> by_cases h2 : C = D <;> simp [h1, h2]
  rw [hd]
  clear hd hA1 hA2 hB1 hB2 hS hT hC hD xS xT xC xD
  generalize decide (C = D) = Y at HF ⊢
  have k1 := (Blk.new w 26 #[.slice A1 n1 c1, .slice B1 m1 d1]).alloc (.cells #[.slice A2 n2 c2, .slice B2 m2 d2] 26)
  have k2 := Blk.new (w.alloc (.cells #[.slice A1 n1 c1, .slice B1 m1 d1] 26)) 26 #[.slice A2 n2 c2, .slice B2 m2 d2]
  simp only [World.size_alloc] at k2
  have hB0 : Below w.heap.size w ((w.alloc (.cells #[.slice A1 n1 c1, .slice B1 m1 d1] 26)).alloc (.cells #[.slice A2 n2 c2, .slice B2 m2 d2] 26)) := ba (ba (Below.refl _ _) _) _
  cases hX : decide (S = T) with
  | true =>
    rw [hX] at HE
    go_enter Tryz.func9, Tryz.ntmps9
    go_wp2_with fail
    refine (HE.out _ hB0).mono ?_
    rintro e w1 ⟨rfl, hb1⟩
    have a1 := (k1.below hb1).cell 1
    have b1 := (k2.below hb1).cell 1
    simp only [List.getElem?_toArray, List.getElem?_cons_zero, List.getElem?_cons_succ] at a1 b1
    have hB1 := bt hB0 hb1
    go_wp2_with fail
    refine (HF.out _ hB1).mono ?_
    rintro e w2 ⟨rfl, hb2⟩
    go_wp2
    go_ret
    exact ⟨rfl, bt hB1 hb2⟩
  | false =>
    rw [hX] at HE
    go_enter Tryz.func9, Tryz.ntmps9
    go_wp2_with fail
    refine (HE.out _ hB0).mono ?_
    rintro e w1 ⟨rfl, hb1⟩
    have hB1 := bt hB0 hb1
    go_wp2
    go_ret
    exact ⟨rfl, hB1⟩
end Go.Proofs.YtjonhenllhnibaaGreatDoor
/- The contracts of the reference's rows, Why and Same. -/
namespace Go.Proofs.YtjonhenllhnibaaGreatDoor
open Go.RowKit

set_option maxRecDepth 100000 in
set_option maxHeartbeats 2000000 in
theorem prrows_any (A : Option Addr) (n c : Nat) (G : List (List (List UInt8))) (w : World) (hA : LR w A G) (hl : G.length = n) (hn : n ≤ 65536) (hG : ∀ j, (G.getD j []).length ≤ 65536) :
    Calls Tryz.prog 45 #[.slice A n c] w fun e w' => e = .returned (.bool (decide (PRt G))) ∧ w = w' := by
  have HR := Lib.hid (fun j (hj : j < n) => hA j (by omega))
  have HN := Lib.hid (fun j B d (h : SR w B (G.getD j [])) => ylabels_any B (G.getD j []).length d (G.getD j []) w h rfl (hG j))
  have HL := Lib.hid hl
  clear hA hl hG
  go_enter Tryz.func45, Tryz.ntmps45
  go_wp2_with fail
  go_loopw [7] (fun iv wr => ∃ j : Nat, j ≤ n ∧ iv = .int .i64 (j : Int) ∧ wr = w ∧ Hid (∀ t, t < j → PRow (G.getD t []))) (fun i _ => n - (intOf i).toNat)
  case atStart => exact ⟨0, Nat.zero_le _, rfl, rfl, Lib.hid fun t ht => absurd ht (Nat.not_lt_zero _)⟩
  case round =>
    obtain ⟨j, hj, rfl, rfl, HA⟩ := hrel
    by_cases hlt : j < n
    · obtain ⟨g, off, B, d, rfl, c0, _, hS⟩ := HR.out j hlt
      have HNj := Lib.hid (HN.out j B d hS)
      clear hS
      have HAJ : Hid (PRow (G.getD j []) → ∀ t, t < j + 1 → PRow (G.getD t [])) := Lib.hid fun h t ht => by
        rcases Nat.lt_or_ge t j with h2 | h2
        · exact HA.out t h2
        · obtain rfl : t = j := by omega
          exact h
      have HX : Hid (¬ PRow (G.getD j []) → decide (PRt G) = false) := Lib.hid fun h => decide_eq_false fun hr => h (hr.at j)
      have HP : Hid ((G.getD j []).length ≤ 64 → (PRow (G.getD j []) ↔ ¬ YNo (G.getD j []))) := Lib.hid fun h => by
        rw [prow_iff h]
        constructor
        · rintro h1 ⟨j, h2, h3⟩; exact h3 (h1 j h2)
        · intro h1 j h2
          apply Classical.byContradiction
          intro h3
          exact h1 ⟨j, h2, h3⟩
      have HQ : Hid (PRow (G.getD j []) → (G.getD j []).length ≤ 64) := Lib.hid fun h => h.1
      generalize G.getD j [] = x at c0 HNj HAJ HX HP HQ
      have i0 : (0 : Int) ≤ (j : Int) := by omega
      have i1 : (j : Int) < (n : Int) := by omega
      by_cases h64 : x.length ≤ 64
      · have HP2 := Lib.hid (HP.out h64)
        have j1 : ¬ (64 : Int) < (x.length : Int) := by omega
        clear HP HQ h64
        generalize x.length = xl at *
        go_wp2_with fail
        refine HNj.out.mono ?_
        rintro e w1 ⟨b, rfl, hb, rfl⟩
        cases b with
        | true =>
          have HA2 := Lib.hid (HAJ.out (HP2.out.2 fun h => by have := hb.2 h; cases this))
          clear HX HAJ hb HP2
          go_wp2_with fail
          exact ⟨⟨j + 1, by omega, by go_num, by trivial, HA2⟩, by simp [intOf]; omega⟩
        | false =>
          have HX2 := Lib.hid (HX.out fun h => HP2.out.1 h (hb.1 rfl))
          clear HX HAJ hb HP2
          go_wp2
          go_ret
          exact ⟨by rw [HX2.out]; rfl, rfl⟩
      · have HX2 := Lib.hid (HX.out fun h => h64 (HQ.out h))
        have j1 : (64 : Int) < (x.length : Int) := by omega
        clear HX HAJ HP HQ h64 HNj
        generalize x.length = xl at *
        go_wp2
        go_ret
        exact ⟨by rw [HX2.out]; rfl, rfl⟩
    · obtain rfl : j = n := by omega
      have HE : Hid (decide (PRt G) = ((j : Int) == 8)) := Lib.hid (by
        by_cases h : j = 8
        · rw [decide_eq_true ((prt_iff (by rw [HL.out]; exact h)).2 fun ⟨t, h1, h2⟩ => h2 (HA.out t (by rw [← HL.out]; exact h1)))]
          subst h
          rfl
        · rw [decide_eq_false fun hr => h (by rw [← HL.out]; exact hr.1)]
          symm
          simp
          omega)
      go_wp2
      go_ret
      exact ⟨by rw [HE.out]; rfl, rfl⟩

/-- Why an item and a proof may not be. -/
def pwhy (s : List UInt8) (G F : List (List (List UInt8))) : Int := if 64 < s.length then 4 else if ¬ (PRt G ∧ PRt F) then 1 else 0
set_option maxRecDepth 100000 in
set_option maxHeartbeats 2000000 in
theorem prwhy_any (A B : Option Addr) (n c m d : Nat) (k : Nat) (s : List UInt8) (G F : List (List (List UInt8))) (w : World) (hA : LR w A G) (hB : LR w B F) (hl : G.length = n) (hm : F.length = m) (hn : n ≤ 65536) (hn2 : m ≤ 65536) (hG : ∀ j, (G.getD j []).length ≤ 65536) (hF : ∀ j, (F.getD j []).length ≤ 65536) :
    Calls Tryz.prog 18 #[.agg #[.int .u64 (k : Int), sv s], pfv A n c B m d] w fun e w' => e = .returned (.int .i64 (pwhy s G F)) ∧ Below w.heap.size w w' := by
  have hb0 := ba (ba (Below.refl w.heap.size w) (.cells #[.int .u64 (k : Int), sv s] 42)) (.cells #[.slice A n c, .slice B m d] 26)
  have T1 := Lib.hid (prrows_any A n c G _ (hA.later hb0) hl hn hG)
  have T2 := Lib.hid (prrows_any B m d F _ (hB.later hb0) hm hn2 hF)
  have d1 := ((Blk.new w 42 #[.int .u64 (k : Int), sv s]).alloc (.cells #[.slice A n c, .slice B m d] 26)).cell 1
  have hk1 : Blk ((w.alloc (.cells #[.int .u64 (k : Int), sv s] 42)).alloc (.cells #[.slice A n c, .slice B m d] 26)) (w.heap.size + 1) 26 #[.slice A n c, .slice B m d] := Blk.newAt (by simp) _ _
  have p0 := hk1.cell 0
  have p1 := hk1.cell 1
  simp only [List.getElem?_toArray, List.getElem?_cons_zero, List.getElem?_cons_succ] at p0 p1
  have hz := isize s
  have HW : Hid (pwhy s G F = if 64 < s.length then 4 else if (decide (PRt G) && decide (PRt F)) = true then 0 else 1) := Lib.hid (by
    unfold pwhy
    split
    · rfl
    · by_cases h1 : PRt G <;> by_cases h2 : PRt F <;> simp [h1, h2])
  rw [HW.out]
  clear hA hB hl hm hG hF HW hk1
  generalize decide (PRt F) = q at *
  generalize decide (PRt G) = r at *
  obtain ⟨sl, hsl⟩ : ∃ sl, s.length = sl := ⟨_, rfl⟩
  rw [hsl] at hz ⊢
  clear hsl
  by_cases h64 : 64 < sl
  · have j1 : (64 : Int) < (sl : Int) := by omega
    rw [if_pos h64]
    clear T1 T2 h64
    go_enter Tryz.func18, Tryz.ntmps18
    go_wp2
    go_ret
    exact ⟨rfl, hb0⟩
  · have j1 : ¬ (64 : Int) < (sl : Int) := by omega
    rw [if_neg h64]
    cases r with
    | false =>
      clear T2 h64
      go_enter Tryz.func18, Tryz.ntmps18
      go_wp2_with fail
      refine T1.out.mono ?_
      rintro e w1 ⟨rfl, rfl⟩
      go_wp2
      go_ret
      exact ⟨rfl, hb0⟩
    | true =>
      cases q with
      | false =>
        clear h64
        go_enter Tryz.func18, Tryz.ntmps18
        go_wp2_with fail
        refine T1.out.mono ?_
        rintro e w1 ⟨rfl, rfl⟩
        go_wp2_with fail
        refine T2.out.mono ?_
        rintro e w1 ⟨rfl, rfl⟩
        go_wp2
        go_ret
        exact ⟨rfl, hb0⟩
      | true =>
        clear h64
        go_enter Tryz.func18, Tryz.ntmps18
        go_wp2_with fail
        refine T1.out.mono ?_
        rintro e w1 ⟨rfl, rfl⟩
        go_wp2_with fail
        refine T2.out.mono ?_
        rintro e w1 ⟨rfl, rfl⟩
        go_wp2
        go_ret
        exact ⟨rfl, hb0⟩
end Go.Proofs.YtjonhenllhnibaaGreatDoor
