/- Texts of this seat, one behind the other: NCheck, NRefT, NRefY, NRefA, NRData. -/
import Derived.Test.YtbecambkjmheiaaQ06
import Derived.Test.YtbecambkjmheiaaQ07
/- The contract of check: why a span may not be asked for. -/
namespace Go.Proofs.Ytbecambkjmheiaa
open Go.RowKit

/-- Why a span may not be asked for. -/
def cWhy (L : List CL) (f n : Nat) : Int := if ¬ CRt L then 1 else if n = 0 ∨ 224 < n then 4 else if f + n ≤ 18446744073709551616 then 0 else 2
theorem cWhy_ok {L : List CL} {f n : Nat} : cWhy L f n = 0 ↔ CRt L ∧ 1 ≤ n ∧ n ≤ 224 ∧ f + n ≤ 18446744073709551616 := by
  unfold cWhy
  by_cases h : CRt L
  · rw [if_neg (fun h' => h' h)]
    split
    · constructor
      · intro h1; cases h1
      · intro h1; omega
    · split
      · exact ⟨fun _ => ⟨h, by omega, by omega, by omega⟩, fun _ => rfl⟩
      · constructor
        · intro h1; cases h1
        · intro h1; omega
  · rw [if_pos h]
    constructor
    · intro h1; cases h1
    · intro h1; exact absurd h1.1 h

set_option maxRecDepth 100000 in
set_option maxHeartbeats 4000000 in
theorem ncheck_any (A : Option Addr) (n c f m : Nat) (L : List CL) (w : World) (hA : CR w A L) (hl : L.length = n) (hn : n ≤ 65536) (hf : f < 18446744073709551616) (hm : m < 18446744073709551616) :
    Calls Try.prog 30 #[.slice A n c, .agg #[vu f, vu m]] w fun e w' => e = .returned (.int .i64 (cWhy L f m)) ∧ Below w.heap.size w w' := by
  have HR := Lib.hid (fun W (hb : Below w.heap.size w W) => nright_any A n c L W (hA.later hb) hl hn)
  by_cases h1 : CRt L
  · rw [decide_eq_true h1] at HR
    by_cases h2 : m = 0 ∨ 224 < m
    · have e : cWhy L f m = 4 := by rw [cWhy, if_neg (fun h => h h1), if_pos h2]
      rw [e]
      clear e hA
      rcases Nat.eq_zero_or_pos m with h3 | h3
      · subst h3
        go_enter Try.func30, Try.ntmps30
        go_wp2_with fail
        refine (HR.out _ (ba (Below.refl _ _) _)).mono ?_
        rintro e w1 ⟨rfl, hb1⟩
        obtain ⟨r1, s1⟩ := At.later (v := vu 0) (b := w.heap.size) (o := 1) ⟨by go_simp, by go_simp⟩ hb1
        have HB := Lib.hid (bt (ba (Below.refl w.heap.size w) _) hb1)
        clear hb1
        go_wp2
        go_ret
        exact ⟨rfl, HB.out⟩
      · have h5 : decide ((m : Int) = 0) = false := by simp only [decide_eq_false_iff_not]; omega
        have h6 : (224 : Int) < (m : Int) := by omega
        have h7 : ((m : Int) == 0) = false := by simp; omega
        clear h2 h3
        go_enter Try.func30, Try.ntmps30
        go_wp2_with fail
        refine (HR.out _ (ba (Below.refl _ _) _)).mono ?_
        rintro e w1 ⟨rfl, hb1⟩
        obtain ⟨r1, s1⟩ := At.later (v := vu m) (b := w.heap.size) (o := 1) ⟨by go_simp, by go_simp⟩ hb1
        have HB := Lib.hid (bt (ba (Below.refl w.heap.size w) _) hb1)
        clear hb1
        go_wp2
        go_ret
        exact ⟨rfl, HB.out⟩
    · have HC : Hid (∀ W, Calls Try.prog 49 #[.agg #[vu f, vu m]] W fun e w' => e = .returned (.int .i64 (cWhy L f m)) ∧ Below W.heap.size W w') := Lib.hid fun W => by
        have e : cWhy L f m = if f + m ≤ 18446744073709551616 then 0 else 2 := by rw [cWhy, if_neg (fun h => h h1), if_neg h2]
        rw [e]
        split
        · exact check_ok (f : Int) (m : Int) W (by omega) (by omega) (by omega)
        · exact check_bad (f : Int) (m : Int) 2 W (by omega) (by omega) (by omega) (by unfold Bad; omega)
      generalize cWhy L f m = E at *
      have h5 : decide ((m : Int) = 0) = false := by simp only [decide_eq_false_iff_not]; omega
      have h6 : ¬ ((224 : Int) < (m : Int)) := by omega
      have h7 : ((m : Int) == 0) = false := by simp; omega
      have h8 : ¬ (224 < m) := by omega
      have h9 : ¬ (m = 0) := by omega
      clear h2 hA
      go_enter Try.func30, Try.ntmps30
      go_wp2_with fail
      refine (HR.out _ (ba (Below.refl _ _) _)).mono ?_
      rintro e w1 ⟨rfl, hb1⟩
      obtain ⟨r0, s0⟩ := At.later (v := vu f) (b := w.heap.size) (o := 0) ⟨by go_simp, by go_simp⟩ hb1
      obtain ⟨r1, s1⟩ := At.later (v := vu m) (b := w.heap.size) (o := 1) ⟨by go_simp, by go_simp⟩ hb1
      have HB := Lib.hid (bt (ba (Below.refl w.heap.size w) _) hb1)
      clear hb1
      go_wp2_with fail
      refine (HC.out _).mono ?_
      rintro e w2 ⟨rfl, hb2⟩
      have HB2 := Lib.hid (bt HB.out hb2)
      clear hb2
      go_wp2
      go_ret
      exact ⟨rfl, HB2.out⟩
  · have e : cWhy L f m = 1 := by rw [cWhy, if_pos h1]
    rw [e]
    rw [decide_eq_false h1] at HR
    clear e hA h1
    go_enter Try.func30, Try.ntmps30
    go_wp2_with fail
    refine (HR.out _ (ba (Below.refl _ _) _)).mono ?_
    rintro e w1 ⟨rfl, hb1⟩
    have HB := Lib.hid (bt (ba (Below.refl w.heap.size w) _) hb1)
    clear hb1
    go_wp2
    go_ret
    exact ⟨rfl, HB.out⟩
end Go.Proofs.Ytbecambkjmheiaa
/- The reference: At. -/
namespace Go.Proofs.Ytbecambkjmheiaa
open Go.RowKit

theorem cat_first (m : Nat) : ∀ (L : List CL) (k : Nat), (∀ j, j < k → (L.getD j default).n ≠ m) → k < L.length → (L.getD k default).n = m → cAt L m = L.getD k default := by
  intro L
  induction L with
  | nil => intro k _ h; cases h
  | cons x L ih =>
    intro k h1 h2 h3
    cases k with
    | zero =>
      have : x.n = m := h3
      unfold cAt
      rw [List.find?_cons_of_pos (by simpa using this)]
      rfl
    | succ k =>
      have h0 : x.n ≠ m := h1 0 (by omega)
      have := ih k (fun j hj => h1 (j + 1) (by omega)) (by simpa using h2) h3
      unfold cAt at this ⊢
      rw [List.find?_cons_of_neg (by simpa using h0)]
      exact this

set_option maxRecDepth 100000 in
set_option maxHeartbeats 4000000 in
theorem nrat_any (A : Option Addr) (n c m : Nat) (L : List CL) (w : World) (hA : CR w A L) (hl : L.length = n) (hn : n ≤ 65536) :
    Calls Try.prog 59 #[.slice A n c, vu m] w fun e w' => e = .returned (cv (cAt L m)) ∧ Below w.heap.size w w' := by
  have HA := Lib.hid hA
  have HL := Lib.hid hl
  have HN : Hid ((∀ j, j < n → (L.getD j default).n ≠ m) → cAt L m = cHole m) := Lib.hid fun h => cat_no fun c hc => by
    obtain ⟨j, hj, rfl⟩ := List.getElem_of_mem hc
    have := h j (by omega)
    rwa [cgetD hj] at this
  have HY : Hid (∀ k, k < n → (∀ j, j < k → (L.getD j default).n ≠ m) → (L.getD k default).n = m → cAt L m = L.getD k default) := Lib.hid fun k hk h1 h2 => cat_first m L k h1 (by omega) h2
  generalize hC : cAt L m = C at *
  clear hC hA hl
  go_enter Try.func59, Try.ntmps59
  go_wp2_with fail
  go_loopw [9] (fun iv wr => ∃ k : Nat, k ≤ n ∧ iv = .int .i64 k ∧ Hid (∀ j, j < k → (L.getD j default).n ≠ m) ∧ Hid (Blk wr w.heap.size 45 #[.int .u64 0, .int .i64 0, .string ⟨#[]⟩]) ∧ Below w.heap.size w wr) (fun i _ => n - (intOf i).toNat)
  case atStart => exact ⟨0, Nat.zero_le _, rfl, Lib.hid (fun j hj => by omega), Lib.hid (Blk.new _ _ _), ba (Below.refl _ _) _⟩
  case round =>
    obtain ⟨k, hk, rfl, HJ, HB, hb⟩ := hrel
    by_cases hlt : k < n
    · obtain ⟨g, off, rfl, c0, c1, c2⟩ := (HA.out.later hb) k (by rw [HL.out]; exact hlt)
      have HY1 := Lib.hid (HY.out k hlt HJ.out)
      have i0 : (0 : Int) ≤ (k : Int) := by omega
      have i1 : (k : Int) < (n : Int) := by omega
      have HJ1 : Hid ((L.getD k default).n ≠ m → ∀ j, j < k + 1 → (L.getD j default).n ≠ m) := Lib.hid fun h j hj => by
        by_cases e : j = k
        · rw [e]; exact h
        · exact HJ.out j (by omega)
      generalize L.getD k default = x at *
      have HB1 := Lib.hid (HB.out.alloc (.cells #[vu x.n, .int .i64 x.s, sv x.d] 45))
      have HBB := Lib.hid (ba hb (.cells #[vu x.n, .int .i64 x.s, sv x.d] 45))
      by_cases hx : x.n = m
      · have e := HY1.out hx
        have r0 : wr.cell? ⟨w.heap.size, 0, none⟩ = some (.int .u64 0) := HB.out.cell 0
        have r1 : wr.cell? ⟨w.heap.size, 1, none⟩ = some (.int .i64 0) := HB.out.cell 1
        have r2 : wr.cell? ⟨w.heap.size, 2, none⟩ = some (.string ⟨#[]⟩) := HB.out.cell 2
        have s0 := HB.out.frozen 0
        have s1 := HB.out.frozen 1
        have s2 := HB.out.frozen 2
        have HO := Lib.hid ((((HB.out.set_ 0 (.int .u64 (x.n : Int))).set_ 1 (.int .i64 x.s)).set_ 2 (.string ⟨x.d.toArray⟩)).alloc (.cells #[.int .u64 (x.n : Int), .int .i64 x.s, .string ⟨x.d.toArray⟩] 45))
        have HOB : Hid (Below w.heap.size w ((((wr.setCell ⟨w.heap.size, 0, none⟩ (.int .u64 (x.n : Int))).setCell ⟨w.heap.size, 1, none⟩ (.int .i64 x.s)).setCell ⟨w.heap.size, 2, none⟩ (.string ⟨x.d.toArray⟩)).alloc (.cells #[.int .u64 (x.n : Int), .int .i64 x.s, .string ⟨x.d.toArray⟩] 45))) := Lib.hid (ba (bs (bs (bs hb (Nat.le_refl _) _) (Nat.le_refl _) _) (Nat.le_refl _) _) _)
        have hsz := HB.out.lt
        have hne : w.heap.size ≠ wr.heap.size := by omega
        subst hx
        clear hb
        go_wp2
        generalize (((wr.setCell ⟨w.heap.size, 0, none⟩ (.int .u64 (x.n : Int))).setCell ⟨w.heap.size, 1, none⟩ (.int .i64 x.s)).setCell ⟨w.heap.size, 2, none⟩ (.string ⟨x.d.toArray⟩)).alloc (.cells #[.int .u64 (x.n : Int), .int .i64 x.s, .string ⟨x.d.toArray⟩] 45) = WF at HO HOB ⊢
        have o0 := HO.out.cell 0
        have o1 := HO.out.cell 1
        have o2 := HO.out.cell 2
        simp at o0 o1 o2
        refine bodyPost_ret (v := cv x) (by simp [results, Try.results59, go_sem, o0, o1, o2]) rfl ⟨rfl, HOB.out⟩
      · have HJ2 := Lib.hid (HJ1.out hx)
        have hx2 : decide ((x.n : Int) = (m : Int)) = false := by simp only [decide_eq_false_iff_not]; omega
        have hx3 : ((x.n : Int) == (m : Int)) = false := by simp; omega
        clear hb
        go_wp2
        exact ⟨⟨k + 1, by omega, by go_num, HJ2, HB1, HBB.out⟩, by simp [intOf]; omega⟩
    · obtain rfl : k = n := by omega
      have e := HN.out HJ.out
      have r0 : wr.cell? ⟨w.heap.size, 0, none⟩ = some (.int .u64 0) := HB.out.cell 0
      have r1 : wr.cell? ⟨w.heap.size, 1, none⟩ = some (.int .i64 0) := HB.out.cell 1
      have r2 : wr.cell? ⟨w.heap.size, 2, none⟩ = some (.string ⟨#[]⟩) := HB.out.cell 2
      have s0 := HB.out.frozen 0
      have s1 := HB.out.frozen 1
      have s2 := HB.out.frozen 2
      have HO := Lib.hid (((HB.out.set_ 0 (vu m)).set_ 1 (.int .i64 0)).set_ 2 (sv []))
      have o0 := HO.out.cell 0
      have o1 := HO.out.cell 1
      have o2 := HO.out.cell 2
      simp at o0 o1 o2
      go_wp2
      refine bodyPost_ret (v := cv (cHole m)) (by simp [results, Try.results59, go_sem, o0, o1, o2, cHole]) rfl ⟨by rw [e], ?_⟩
      exact bs (bs (bs hb (Nat.le_refl _) _) (Nat.le_refl _) _) (Nat.le_refl _) _

end Go.Proofs.Ytbecambkjmheiaa
/- The reference: Byte. -/
namespace Go.Proofs.Ytbecambkjmheiaa
open Go.RowKit

theorem nindex_is (S : ByteArray) (i : Nat) (k : Int) (b : UInt8) (hk : (i : Int) = k) (h : S[i]? = some b) (W : World) : (Instr.index 9 (.string S) (.int .u64 k)).run Try.prog W = .ok (.int .u8 (b.toNat : Int)) W := by
  subst hk
  have hlt : i < S.size := by
    rcases Nat.lt_or_ge i S.size with h' | h'
    · exact h'
    · rw [getElem?_neg _ _ (by omega)] at h; cases h
  have hb : S[i] = b := by rw [getElem?_pos S i hlt] at h; exact Option.some.inj h
  rw [run_index_string (h := Try.underlying9), dif_pos ⟨by omega, by omega⟩]
  simp [hb]
set_option maxRecDepth 100000 in
set_option maxHeartbeats 2000000 in
theorem nrbyte_any (A : Option Addr) (n c m : Nat) (L : List CL) (w : World) (hA : CR w A L) (hl : L.length = n) (hR : CRt L) (hm : m < 18446744073709551616) :
    Calls Try.prog 74 #[.slice A n c, vu m] w fun e w' => e = .returned (.int .u8 ((cByte L m).toNat : Int)) ∧ Below w.heap.size w w' := by
  have hn : n ≤ 65536 := by have := hR.1; omega
  have HC : Hid (∀ W, Below w.heap.size w W → Calls Try.prog 59 #[.slice A n c, .int .u64 ((m : Int) / 32)] W fun e w' => e = .returned (cv (cAt L (m / 32))) ∧ Below W.heap.size W w') := Lib.hid fun W hb => by
    have h9 : ∀ x : Int, x = ((m / 32 : Nat) : Int) → Calls Try.prog 59 #[.slice A n c, .int .u64 x] W fun e w' => e = .returned (cv (cAt L (m / 32))) ∧ Below W.heap.size W w' := fun x hx => by
      subst hx; exact nrat_any A n c (m / 32) L W (hA.later hb) hl hn
    exact h9 _ (by omega)
  have hcl : (cbytes (cAt L (m / 32))).length = 32 := cis_len (by
    rcases cat_ok hR (m / 32) with h | h
    · exact .inl h
    · exact .inr (by rw [cat_n]; exact h))
  have e : cByte L m = (cbytes (cAt L (m / 32))).getD (m % 32) 0 := rfl
  rw [e]
  clear e hA hl hR
  generalize cAt L (m / 32) = C at *
  have hm32 : m % 32 < 32 := by omega
  have hi0 : (0 : Int) ≤ (m : Int) := by omega
  have hi1 : (m : Int) ≤ 18446744073709551615 := by omega
  by_cases hs : C.s = 1
  · obtain ⟨cn, cs, cd⟩ := C
    simp only at hs
    subst hs
    have e : cbytes ⟨cn, 1, cd⟩ = cd := by simp [cbytes]
    rw [e] at hcl ⊢
    have hd := hcl
    have hg := at_get cd (m % 32) (by omega)
    have hx : ∀ W, (Instr.index 9 (sv cd) (.int .u64 ((m : Int) % 32))).run Try.prog W = .ok (.int .u8 ((cd.getD (m % 32) 0).toNat : Int)) W := fun W =>
      nindex_is ⟨cd.toArray⟩ (m % 32) _ _ (by omega) hg W
    obtain ⟨b, hb⟩ : ∃ b, cd.getD (m % 32) 0 = b := ⟨_, rfl⟩
    rw [hb] at hx ⊢
    clear hcl e hg hb hd
    clear hm hm32
    show Calls Try.prog 74 #[.slice A n c, .int .u64 (m : Int)] w _
    generalize (m : Int) = y at *
    go_enter Try.func74, Try.ntmps74
    go_wp2_with fail
    refine (HC.out _ (Below.refl _ _)).mono ?_
    rintro e w1 ⟨rfl, hb1⟩
    have HB := Lib.hid (ba hb1 (.cells #[vu cn, .int .i64 1, sv cd] 45))
    clear hb1
    go_wp2
    go_ret
    exact ⟨rfl, HB.out⟩
  · have e : (cbytes C).getD (m % 32) 0 = 0 := by
      have e2 : cbytes C = List.replicate 32 0 := by rw [cbytes, if_neg hs]
      rw [e2, crep_get]
    rw [e]
    have hs1 : decide (C.s = 1) = false := by simpa using hs
    clear hcl e
    clear hm hm32
    show Calls Try.prog 74 #[.slice A n c, .int .u64 (m : Int)] w _
    generalize (m : Int) = y at *
    go_enter Try.func74, Try.ntmps74
    go_wp2_with fail
    refine (HC.out _ (Below.refl _ _)).mono ?_
    rintro e w1 ⟨rfl, hb1⟩
    have HB := Lib.hid (ba hb1 (.cells #[vu C.n, .int .i64 C.s, sv C.d] 45))
    clear hb1
    go_wp2
    go_ret
    exact ⟨rfl, HB.out⟩
end Go.Proofs.Ytbecambkjmheiaa
/- The reference: in, whole, At, Byte. -/
namespace Go.Proofs.Ytbecambkjmheiaa
open Go.RowKit

/-- A byte is in a span. -/
def cIn (f len m : Nat) : Prop := f ≤ m ∧ m < f + len
instance (f len m : Nat) : Decidable (cIn f len m) := by unfold cIn; infer_instance

set_option maxRecDepth 100000 in
set_option maxHeartbeats 1000000 in
theorem nrin_any (m f len : Nat) (w : World) (hm : m < 18446744073709551616) (hf : f < 18446744073709551616) :
    Calls Try.prog 75 #[vu m, .agg #[vu f, vu len]] w fun e w' => e = .returned (.bool (decide (cIn f len m))) ∧ Below w.heap.size w w' := by
  by_cases h : f ≤ m
  · have e : decide (cIn f len m) = decide (((m : Int) - (f : Int)) < (len : Int)) := by
      exact decide_eq_decide.2 (by unfold cIn; omega)
    have hw : IntKind.u64.wrap ((m : Int) - (f : Int)) = (m : Int) - (f : Int) := IntWalk.u64_in _ ⟨by omega, by omega⟩
    have h1 : (f : Int) ≤ (m : Int) := by omega
    rw [e]
    clear e
    go_enter Try.func75, Try.ntmps75
    go_wp2
    go_ret
    exact ⟨rfl, ba (Below.refl _ _) _⟩
  · have e : decide (cIn f len m) = false := decide_eq_false (by unfold cIn; omega)
    have h1 : ¬ ((f : Int) ≤ (m : Int)) := by omega
    rw [e]
    clear e
    go_enter Try.func75, Try.ntmps75
    go_wp2
    go_ret
    exact ⟨rfl, ba (Below.refl _ _) _⟩

set_option maxRecDepth 100000 in
set_option maxHeartbeats 1000000 in
theorem nrwhole_any (n f len : Nat) (w : World) (hn : n < 576460752303423488) (hf : f < 18446744073709551616) :
    Calls Try.prog 61 #[vu n, .agg #[vu f, vu len]] w fun e w' => e = .returned (.bool (decide (cWhole f len n))) ∧ Below w.heap.size w w' := by
  have H1 : Hid (∀ W, Calls Try.prog 75 #[.int .u64 (32 * (n : Int)), .agg #[vu f, vu len]] W fun e w' => e = .returned (.bool (decide (cIn f len (32 * n)))) ∧ Below W.heap.size W w') := Lib.hid fun W => by
    have h9 : ∀ x : Int, x = ((32 * n : Nat) : Int) → Calls Try.prog 75 #[.int .u64 x, .agg #[vu f, vu len]] W fun e w' => e = .returned (.bool (decide (cIn f len (32 * n)))) ∧ Below W.heap.size W w' := fun x hx => by
      subst hx; exact nrin_any (32 * n) f len W (by omega) hf
    exact h9 _ (by omega)
  have H2 : Hid (∀ W, Calls Try.prog 75 #[.int .u64 (32 * (n : Int) + 31), .agg #[vu f, vu len]] W fun e w' => e = .returned (.bool (decide (cIn f len (32 * n + 31)))) ∧ Below W.heap.size W w') := Lib.hid fun W => by
    have h9 : ∀ x : Int, x = ((32 * n + 31 : Nat) : Int) → Calls Try.prog 75 #[.int .u64 x, .agg #[vu f, vu len]] W fun e w' => e = .returned (.bool (decide (cIn f len (32 * n + 31)))) ∧ Below W.heap.size W w' := fun x hx => by
      subst hx; exact nrin_any (32 * n + 31) f len W (by omega) hf
    exact h9 _ (by omega)
  have hw1 : IntKind.u64.wrap (32 * (n : Int)) = 32 * (n : Int) := IntWalk.u64_in _ ⟨by omega, by omega⟩
  have hw2 : IntKind.u64.wrap (32 * (n : Int) + 31) = 32 * (n : Int) + 31 := IntWalk.u64_in _ ⟨by omega, by omega⟩
  have hd : decide (cWhole f len n) = (decide (cIn f len (32 * n)) && decide (cIn f len (32 * n + 31))) := by
    rw [← Bool.decide_and]
    exact decide_eq_decide.2 (by unfold cWhole cIn; omega)
  rw [hd]
  clear hd
  by_cases h1 : cIn f len (32 * n)
  · rw [decide_eq_true h1] at H1 ⊢
    clear h1
    generalize decide (cIn f len (32 * n + 31)) = B at *
    go_enter Try.func61, Try.ntmps61
    go_wp2_with fail
    refine (H1.out _).mono ?_
    rintro e w1 ⟨rfl, hb1⟩
    obtain ⟨r0, s0⟩ := At.later (v := vu f) (b := w.heap.size) (o := 0) ⟨by go_simp, by go_simp⟩ hb1
    obtain ⟨r1, s1⟩ := At.later (v := vu len) (b := w.heap.size) (o := 1) ⟨by go_simp, by go_simp⟩ hb1
    have HB := Lib.hid (bt (ba (Below.refl w.heap.size w) _) hb1)
    clear hb1
    go_wp2_with fail
    refine (H2.out _).mono ?_
    rintro e w2 ⟨rfl, hb2⟩
    have HB2 := Lib.hid (bt HB.out hb2)
    clear hb2
    go_wp2
    go_ret
    exact ⟨by simp, HB2.out⟩
  · rw [decide_eq_false h1] at H1 ⊢
    clear h1
    go_enter Try.func61, Try.ntmps61
    go_wp2_with fail
    refine (H1.out _).mono ?_
    rintro e w1 ⟨rfl, hb1⟩
    have HB := Lib.hid (bt (ba (Below.refl w.heap.size w) _) hb1)
    clear hb1
    go_wp2
    go_ret
    exact ⟨by simp, HB.out⟩

end Go.Proofs.Ytbecambkjmheiaa
/- The reference's data: a block's bytes, with the span's in their places. -/
namespace Go.Proofs.Ytbecambkjmheiaa
open Go.RowKit

/-- A change's bytes. -/
def cG (what : Int) (T : List UInt8) (j : Nat) : UInt8 := if what = 1 then T.getD j 0 else 0
theorem cmix_get (g : Nat → UInt8) (f len : Nat) (c : CL) {k : Nat} (hk : k < 32) : (cmix g f len c).getD k 0 = if f ≤ 32 * c.n + k ∧ 32 * c.n + k < f + len then g (32 * c.n + k - f) else (cbytes c).getD k 0 := by
  simp [cmix, List.getD, hk]
theorem btake (N : List UInt8) (k : Nat) (h : k < N.length) : Lib.byteCells (N.take (k + 1)) = Lib.byteCells (N.take k) ++ [.int .u8 ((N.getD k 0).toNat : Int)] := by
  rw [List.take_succ_eq_append_getElem h]
  unfold Lib.byteCells
  rw [List.map_append]
  simp [List.getD, h]

set_option maxRecDepth 100000 in
set_option maxHeartbeats 4000000 in
theorem nrdata_any (A : Option Addr) (n cap bn f len : Nat) (what : Int) (T : List UInt8) (L : List CL) (w : World) (hA : CR w A L) (hl : L.length = n) (hR : CRt L) (hbn : bn < 576460752303423488) (hf : f < 18446744073709551616) (hT : what = 1 → T.length = len) :
    Calls Try.prog 60 #[.slice A n cap, vu bn, .agg #[.int .i64 what, vu f, vu len, sv T]] w fun e w' => e = .returned (sv (cmix (cG what T) f len (cAt L bn))) ∧ Below w.heap.size w w' := by
  obtain ⟨i0, hi0, hz0, hz1, hz2⟩ := info_parts info5
  have HBy : Hid (∀ W, Below w.heap.size w W → ∀ k : Nat, k < 32 → ∀ x : Int, x = ((32 * bn + k : Nat) : Int) → Calls Try.prog 74 #[.slice A n cap, .int .u64 x] W fun e w' => e = .returned (.int .u8 (((cbytes (cAt L bn)).getD k 0).toNat : Int)) ∧ Below W.heap.size W w') := Lib.hid fun W hb k hk x hx => by
    subst hx
    have h := nrbyte_any A n cap (32 * bn + k) L W (hA.later hb) hl hR (by omega)
    have e : cByte L (32 * bn + k) = (cbytes (cAt L bn)).getD k 0 := by
      unfold cByte; rw [show (32 * bn + k) / 32 = bn by omega, show (32 * bn + k) % 32 = k by omega]
    rwa [e] at h
  have HIn : Hid (∀ W, ∀ k : Nat, k < 32 → ∀ x : Int, x = ((32 * bn + k : Nat) : Int) → Calls Try.prog 75 #[.int .u64 x, .agg #[vu f, vu len]] W fun e w' => e = .returned (.bool (decide (cIn f len (32 * bn + k)))) ∧ Below W.heap.size W w') := Lib.hid fun W k hk x hx => by
    subst hx
    exact nrin_any (32 * bn + k) f len W (by omega) hf
  have HN : Hid ((cmix (cG what T) f len (cAt L bn)).length = 32) := Lib.hid (cmix_len _ _ _ _)
  have HU : Hid (∀ k, k < 32 → (cmix (cG what T) f len (cAt L bn)).getD k 0 = if f ≤ 32 * bn + k ∧ 32 * bn + k < f + len then cG what T (32 * bn + k - f) else (cbytes (cAt L bn)).getD k 0) := Lib.hid fun k hk => by
    rw [cmix_get _ _ _ _ hk, cat_n]
  have HX : Hid (what = 1 → ∀ k : Nat, 32 * bn + k < f + len → f ≤ 32 * bn + k → ∀ x : Int, x = ((32 * bn + k : Nat) : Int) - (f : Int) → ∀ W, (Instr.index 9 (sv T) (.int .u64 x)).run Try.prog W = .ok (.int .u8 ((T.getD (32 * bn + k - f) 0).toNat : Int)) W) := Lib.hid fun h k h1 h2 x hx W =>
    nindex_is ⟨T.toArray⟩ (32 * bn + k - f) x _ (by omega) (at_get T (32 * bn + k - f) (by have := hT h; omega)) W
  generalize cmix (cG what T) f len (cAt L bn) = N at *
  generalize cbytes (cAt L bn) = O at *
  have HTK := Lib.hid (fun k (hk : k < 32) => btake N k (by rw [HN.out]; exact hk))
  have HW : Hid (∀ k : Nat, k < 32 → IntKind.u64.wrap (32 * (bn : Int)) = 32 * (bn : Int) ∧ IntKind.u64.wrap (32 * (bn : Int) + (k : Int)) = 32 * (bn : Int) + (k : Int) ∧ ((32 * bn + k : Nat) : Int) = 32 * (bn : Int) + (k : Int) ∧ (f ≤ 32 * bn + k → IntKind.u64.wrap (32 * (bn : Int) + (k : Int) - (f : Int)) = 32 * (bn : Int) + (k : Int) - (f : Int))) := Lib.hid fun k hk =>
    ⟨IntWalk.u64_in _ ⟨by omega, by omega⟩, IntWalk.u64_in _ ⟨by omega, by omega⟩, by omega, fun h => IntWalk.u64_in _ ⟨by omega, by omega⟩⟩
  have HOO : Hid (((w.alloc (.cells #[.int .i64 what, vu f, vu len, sv T] 34)).alloc (.cells #[] 5)).ownsRow (w.heap.size + 1) 5 1 (.slice (some ⟨w.heap.size + 1, 0, none⟩) 0 0) 0 (Lib.byteCells (N.take 0))) := Lib.hid (own_nil (Blk.newAt (by simp) _ _) (Nat.le_refl _))
  have HC0 : Hid (Blk ((w.alloc (.cells #[.int .i64 what, vu f, vu len, sv T] 34)).alloc (.cells #[] 5)) w.heap.size 34 #[.int .i64 what, vu f, vu len, sv T]) := Lib.hid ((Blk.new w _ _).alloc _)
  have hb0 := ba (ba (Below.refl w.heap.size w) (.cells #[.int .i64 what, vu f, vu len, sv T] 34)) (.cells #[] 5)
  clear hA hl hR hT
  have HBn := Lib.hid hbn
  have HF := Lib.hid hf
  clear hbn hf
  show Calls Try.prog 60 #[.slice A n cap, .int .u64 (bn : Int), .agg #[.int .i64 what, vu f, vu len, sv T]] w _
  generalize (bn : Int) = B at *
  go_enter Try.func60, Try.ntmps60
  go_wp2_with fail
  go_loopw [7, 8] (fun ov iv wr => ∃ k g d : Nat, k ≤ 32 ∧ iv = .int .u64 k ∧ ov = .slice (some ⟨g, 0, none⟩) k d ∧ Hid (Blk wr w.heap.size 34 #[.int .i64 what, vu f, vu len, sv T]) ∧ Hid (wr.ownsRow (w.heap.size + 1) 5 1 (.slice (some ⟨g, 0, none⟩) k d) k (Lib.byteCells (N.take k))) ∧ Below w.heap.size w wr) (fun _ iv _ => 32 - (intOf iv).toNat)
  case atStart => exact ⟨0, _, _, Nat.zero_le _, rfl, rfl, HC0, HOO, hb0⟩
  case round =>
    clear HOO HC0 hb0
    obtain ⟨k, g, d, hk, rfl, rfl, C0, HO, hb⟩ := hrel
    by_cases hlt : k < 32
    · have hki : (k : Int) < 32 := by omega
      have HT := Lib.hid (HTK.out k hlt)
      have HUk := Lib.hid (HU.out k hlt)
      obtain ⟨w1e, w2e, w3e, HW4⟩ := HW.out k hlt
      have HB1 := Lib.hid (HBy.out wr hb k hlt _ w3e.symm)
      have HI1 := Lib.hid (fun W => HIn.out W k hlt _ w3e.symm)
      have HX1 := Lib.hid (fun h => HX.out h k)
      have hbs := Lib.hid hb.size
      by_cases hin : cIn f len (32 * bn + k)
      · rw [decide_eq_true hin] at HI1
        have w4e := HW4 hin.1
        have HUU := Lib.hid (HUk.out.trans (if_pos hin))
        by_cases hw1 : what = 1
        · have HXX := Lib.hid (HX1.out hw1 hin.2 hin.1 _ rfl)
          have HV : Hid (N.getD k 0 = T.getD (32 * bn + k - f) 0) := Lib.hid (HUU.out.trans (by unfold cG; rw [if_pos hw1]))
          rw [HV.out] at HT
          rw [w3e] at HXX
          generalize T.getD (32 * bn + k - f) 0 = z at *
          clear HUk HUU HV w3e HW4 HX1 hin
          subst hw1
          go_wp2_with fail
          refine HB1.out.mono ?_
          rintro e w1 ⟨rfl, hb1⟩
          have C1 : Hid (Blk w1 w.heap.size 34 #[.int .i64 1, vu f, vu len, sv T]) := Lib.hid (C0.out.below hb1)
          have HO1 := Lib.hid (own_later HO.out hb1)
          have hbb1 := bt hb hb1
          obtain ⟨q1, r1⟩ := C1.out.at_ (i := 1) (v := vu f) rfl
          obtain ⟨q2, r2⟩ := C1.out.at_ (i := 2) (v := vu len) rfl
          clear hb1 hb HO C0
          go_wp2_with fail
          refine (HI1.out _).mono ?_
          rintro e w2 ⟨rfl, hb2'⟩
          have C2 : Hid (Blk w2 w.heap.size 34 #[.int .i64 1, vu f, vu len, sv T]) := Lib.hid (C1.out.below hb2')
          have HO2 := Lib.hid (own_later HO1.out hb2')
          have hb2 := bt hbb1 hb2'
          obtain ⟨q0, r0⟩ := C2.out.at_ (i := 0) (v := .int .i64 1) rfl
          obtain ⟨q3, r3⟩ := C2.out.at_ (i := 3) (v := sv T) rfl
          obtain ⟨q4, r4⟩ := C2.out.at_ (i := 1) (v := vu f) rfl
          have hz2s := hb2.size
          clear hb2' hbb1 HO1 C1
          have hxi := HXX.out w2
          go_wp2_with (at_builtin; refine wpList_append_own _ rfl _ _ 56 rfl (w.heap.size + 1) 5 i0 (.int .u8 0) 1 1 Try.underlying56 hi0 hz0 hz1 hz2 rfl (by decide) _ _ _ rfl (own_alloc HO2.out _) ⟨w2.heap.size, 0, none⟩ 1 1 [.int .u8 (z.toNat : Int)] rfl rfl (news_new w2 [.int .u8 (z.toNat : Int)] 5) (by simp [Value.oneCell']) (by unfold maxLen; omega) (by omega) (by simp; omega) ?_; intro v' w6 hown' hgrow _; obtain ⟨g1, c1, rfl⟩ := ownsRow_succ hown'; have hb6 : Below w.heap.size w w6 := (ba hb2 (.cells #[.int .u8 (z.toNat : Int)] 5)).grown hgrow (by simp; omega) (fun k e => by cases e; have := (HO2.out.lt _ rfl).1; omega); have C6 : Hid (Blk w6 w.heap.size 34 #[.int .i64 1, vu f, vu len, sv T]) := Lib.hid ((C2.out.alloc _).grown hgrow (fun e => by have h9 := (HO2.out.lt w.heap.size e.symm).1; omega)); have HO6 := Lib.hid hown'; clear hown' hgrow)
          exact ⟨⟨k + 1, g1, c1, by omega, by go_num, rfl, C6, Lib.hid (by rw [HT.out]; exact HO6.out), hb6⟩, by simp [intOf]; omega⟩
        · have HV : Hid (N.getD k 0 = 0) := Lib.hid (HUU.out.trans (by unfold cG; rw [if_neg hw1]))
          rw [HV.out] at HT
          clear HUk HUU HV w3e HW4 HX1 hin
          have hw2 : decide (what = 1) = false := decide_eq_false hw1
          go_wp2_with fail
          refine HB1.out.mono ?_
          rintro e w1 ⟨rfl, hb1⟩
          have C1 : Hid (Blk w1 w.heap.size 34 #[.int .i64 what, vu f, vu len, sv T]) := Lib.hid (C0.out.below hb1)
          have HO1 := Lib.hid (own_later HO.out hb1)
          have hbb1 := bt hb hb1
          obtain ⟨q1, r1⟩ := C1.out.at_ (i := 1) (v := vu f) rfl
          obtain ⟨q2, r2⟩ := C1.out.at_ (i := 2) (v := vu len) rfl
          clear hb1 hb HO C0
          go_wp2_with fail
          refine (HI1.out _).mono ?_
          rintro e w2 ⟨rfl, hb2'⟩
          have C2 : Hid (Blk w2 w.heap.size 34 #[.int .i64 what, vu f, vu len, sv T]) := Lib.hid (C1.out.below hb2')
          have HO2 := Lib.hid (own_later HO1.out hb2')
          have hb2 := bt hbb1 hb2'
          obtain ⟨q0, r0⟩ := C2.out.at_ (i := 0) (v := .int .i64 what) rfl
          obtain ⟨q3, r3⟩ := C2.out.at_ (i := 3) (v := sv T) rfl
          obtain ⟨q4, r4⟩ := C2.out.at_ (i := 1) (v := vu f) rfl
          have hz2s := hb2.size
          clear hb2' hbb1 HO1 C1
          go_wp2_with (at_builtin; refine wpList_append_own _ rfl _ _ 56 rfl (w.heap.size + 1) 5 i0 (.int .u8 0) 1 1 Try.underlying56 hi0 hz0 hz1 hz2 rfl (by decide) _ _ _ rfl (own_alloc HO2.out _) ⟨w2.heap.size, 0, none⟩ 1 1 [.int .u8 0] rfl rfl (news_new w2 [.int .u8 0] 5) (by simp [Value.oneCell']) (by unfold maxLen; omega) (by omega) (by simp; omega) ?_; intro v' w6 hown' hgrow _; obtain ⟨g1, c1, rfl⟩ := ownsRow_succ hown'; have hb6 : Below w.heap.size w w6 := (ba hb2 (.cells #[.int .u8 0] 5)).grown hgrow (by simp; omega) (fun k e => by cases e; have := (HO2.out.lt _ rfl).1; omega); have C6 : Hid (Blk w6 w.heap.size 34 #[.int .i64 what, vu f, vu len, sv T]) := Lib.hid ((C2.out.alloc _).grown hgrow (fun e => by have h9 := (HO2.out.lt w.heap.size e.symm).1; omega)); have HO6 := Lib.hid hown'; clear hown' hgrow)
          exact ⟨⟨k + 1, g1, c1, by omega, by go_num, rfl, C6, Lib.hid (by rw [HT.out]; exact HO6.out), hb6⟩, by simp [intOf]; omega⟩
      · rw [decide_eq_false hin] at HI1
        have HV : Hid (N.getD k 0 = O.getD k 0) := Lib.hid (HUk.out.trans (if_neg hin))
        rw [HV.out] at HT
        clear HUk HV w3e HW4 HX1 hin
        generalize O.getD k 0 = z at *
        go_wp2_with fail
        refine HB1.out.mono ?_
        rintro e w1 ⟨rfl, hb1⟩
        have C1 : Hid (Blk w1 w.heap.size 34 #[.int .i64 what, vu f, vu len, sv T]) := Lib.hid (C0.out.below hb1)
        have HO1 := Lib.hid (own_later HO.out hb1)
        have hbb1 := bt hb hb1
        obtain ⟨q1, r1⟩ := C1.out.at_ (i := 1) (v := vu f) rfl
        obtain ⟨q2, r2⟩ := C1.out.at_ (i := 2) (v := vu len) rfl
        clear hb1 hb HO C0
        go_wp2_with fail
        refine (HI1.out _).mono ?_
        rintro e w2 ⟨rfl, hb2'⟩
        have C2 : Hid (Blk w2 w.heap.size 34 #[.int .i64 what, vu f, vu len, sv T]) := Lib.hid (C1.out.below hb2')
        have HO2 := Lib.hid (own_later HO1.out hb2')
        have hb2 := bt hbb1 hb2'
        obtain ⟨q0, r0⟩ := C2.out.at_ (i := 0) (v := .int .i64 what) rfl
        obtain ⟨q3, r3⟩ := C2.out.at_ (i := 3) (v := sv T) rfl
        obtain ⟨q4, r4⟩ := C2.out.at_ (i := 1) (v := vu f) rfl
        have hz2s := hb2.size
        clear hb2' hbb1 HO1 C1
        go_wp2_with (at_builtin; refine wpList_append_own _ rfl _ _ 56 rfl (w.heap.size + 1) 5 i0 (.int .u8 0) 1 1 Try.underlying56 hi0 hz0 hz1 hz2 rfl (by decide) _ _ _ rfl (own_alloc HO2.out _) ⟨w2.heap.size, 0, none⟩ 1 1 [.int .u8 (z.toNat : Int)] rfl rfl (news_new w2 [.int .u8 (z.toNat : Int)] 5) (by simp [Value.oneCell']) (by unfold maxLen; omega) (by omega) (by simp; omega) ?_; intro v' w6 hown' hgrow _; obtain ⟨g1, c1, rfl⟩ := ownsRow_succ hown'; have hb6 : Below w.heap.size w w6 := (ba hb2 (.cells #[.int .u8 (z.toNat : Int)] 5)).grown hgrow (by simp; omega) (fun k e => by cases e; have := (HO2.out.lt _ rfl).1; omega); have C6 : Hid (Blk w6 w.heap.size 34 #[.int .i64 what, vu f, vu len, sv T]) := Lib.hid ((C2.out.alloc _).grown hgrow (fun e => by have h9 := (HO2.out.lt w.heap.size e.symm).1; omega)); have HO6 := Lib.hid hown'; clear hown' hgrow)
        exact ⟨⟨k + 1, g1, c1, by omega, by go_num, rfl, C6, Lib.hid (by rw [HT.out]; exact HO6.out), hb6⟩, by simp [intOf]; omega⟩
    · obtain rfl : k = 32 := by omega
      have HTX := Lib.hid (own_text (l := N) (by have := HO.out; rw [List.take_of_length_le (by rw [HN.out]; exact Nat.le_refl _)] at this; exact this) HN.out)
      have hcv := HTX.out
      go_wp2
      go_ret
      exact ⟨rfl, hb⟩
end Go.Proofs.Ytbecambkjmheiaa
