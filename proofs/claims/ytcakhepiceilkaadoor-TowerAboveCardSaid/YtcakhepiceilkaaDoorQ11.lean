/- Texts of this seat, one behind the other: VSame, VAlive, U64, VOpen, VLawH, VLaid, VLawA, VCount, VLawF. -/
import Derived.BigQuiet
import Derived.Deep.Strs
import Derived.ChangeSlices
import Derived.LaidMore
import Derived.OpenShut
import Derived.Stop.Joined
import Derived.Test.YtcakhepiceilkaaDoorQ01
import Derived.Test.YtcakhepiceilkaaDoorQ02
import Derived.Test.YtcakhepiceilkaaDoorQ09
import Derived.Test.YtcakhepiceilkaaDoorQ10
/- The contract of stage 15's reference Same, at any two rows of ints. -/
namespace Go.Proofs.YtcakhepiceilkaaDoor
open Go.RowKit

set_option maxRecDepth 100000 in
set_option maxHeartbeats 4000000 in
theorem vsame_any (A B : Option Addr) (c d n m : Nat) (L M : List Nat) (w : World) (hA : VR vi w A L) (hB : VR vi w B M) (hl : L.length = n) (hm : M.length = m) (hn : n ≤ 65536) (hn2 : m ≤ 65536) :
    Calls Tryd.prog 9 #[.slice A n c, .slice B m d] w fun e w' => e = .returned (.bool (decide (L = M))) ∧ Below w.heap.size w w' := by
  have HA := Lib.hid hA
  have HB := Lib.hid hB
  have HL := Lib.hid hl
  have HM := Lib.hid hm
  clear hA hB hl hm
  by_cases hnm : n = m
  · subst hnm
    clear hn2
    go_enter Tryd.func9, Tryd.ntmps9
    go_wp2_with fail
    go_loopw [13] (fun iv wr => ∃ k : Nat, k ≤ n ∧ iv = .int .i64 k ∧ Hid (∀ j, j < k → L.getD j 0 = M.getD j 0) ∧ Below w.heap.size w wr) (fun i _ => n - (intOf i).toNat)
    case atStart => exact ⟨0, Nat.zero_le _, rfl, Lib.hid (fun j hj => absurd hj (Nat.not_lt_zero j)), Below.refl _ _⟩
    case round =>
      obtain ⟨k, hk, rfl, HE, hb⟩ := hrel
      by_cases hlt : k < n
      · obtain ⟨g, off, rfl, c0⟩ := (HA.out.later hb) k (by rw [HL.out]; exact hlt)
        obtain ⟨g', off', rfl, d0⟩ := (HB.out.later hb) k (by rw [HM.out]; exact hlt)
        have i0 : (0 : Int) ≤ (k : Int) := by omega
        have i1 : (k : Int) < (n : Int) := by omega
        by_cases hxy : L.getD k 0 = M.getD k 0
        · have HE2 : Hid (∀ j, j < k + 1 → L.getD j 0 = M.getD j 0) := Lib.hid (fun j hj => by
            by_cases e : j = k
            · rw [e]; exact hxy
            · exact HE.out j (by omega))
          rw [← hxy] at d0
          clear hxy
          generalize L.getD k 0 = x at c0 d0
          go_wp2_with fail
          go_quiet (fail)
          go_wp2
          exact ⟨⟨k + 1, by omega, by go_num, HE2, bdn' hb _⟩, by simp [intOf]; omega⟩
        · have HN : Hid (decide (L = M) = false) := Lib.hid (by simp; intro e; exact hxy (by rw [e]))
          generalize L.getD k 0 = x at c0 hxy
          generalize M.getD k 0 = y at d0 hxy
          have hx1 : (x == y) = false := by simp only [beq_eq_false_iff_ne]; exact hxy
          have hx2 : ((x : Int) == (y : Int)) = false := by simp; omega
          have hx3 : ((x : Int) != (y : Int)) = true := by simp; omega
          clear hxy
          go_wp2_with fail
          go_quiet (fail)
          go_wp2
          go_ret
          rw [HN.out]
          exact ⟨rfl, bdn' hb _⟩
      · obtain rfl : k = n := by omega
        have HY : Hid (decide (L = M) = true) := Lib.hid (by simp; exact vget_ext HL.out HM.out HE.out)
        go_wp2
        go_ret
        rw [HY.out]
        exact ⟨rfl, hb⟩
  · have HN : Hid (decide (L = M) = false) := Lib.hid (by simp; intro e; exact hnm (by rw [← HL.out, ← HM.out, e]))
    have h1 : (n == m) = false := by simp; exact hnm
    have h2 : ((n : Int) == (m : Int)) = false := by simp; omega
    have h3 : ((n : Int) != (m : Int)) = true := by simp; omega
    clear hnm
    go_enter Tryd.func9, Tryd.ntmps9
    go_wp2_with fail
    go_ret
    rw [HN.out]
    exact ⟨rfl, Below.refl _ _⟩
theorem vsame_same (A B : Option Addr) (c d n : Nat) (L : List Nat) (w : World) (hA : VR vi w A L) (hB : VR vi w B L) (hl : L.length = n) (hn : n ≤ 65536) :
    Calls Tryd.prog 9 #[.slice A n c, .slice B n d] w fun e w' => e = .returned (.bool true) ∧ Below w.heap.size w w' := by
  have h := vsame_any A B c d n n L L w hA hB hl hl hn hn
  rwa [show decide (L = L) = true from decide_eq_true rfl] at h
end Go.Proofs.YtcakhepiceilkaaDoor
/- The contract of alive. -/
namespace Go.Proofs.YtcakhepiceilkaaDoor
open Go.RowKit

theorem abL_all (k : List UInt8) (L : List Nat) (j : Nat) : abL k L 0 j = List.range j := by
  unfold abL
  rw [List.filter_eq_self]
  intro i _
  have := hL_le k (L.getD i 0)
  exact decide_eq_true (by omega)

set_option maxRecDepth 100000 in
set_option maxHeartbeats 2000000 in
theorem valive_any (w : World) (hT : VTab w) : Calls Tryd.prog 6 #[] w fun e w' => e = .returned (.bool true) ∧ Below w.heap.size w w' := by
  have HB1 : Below w.heap.size w (w.alloc (.cells #[.int .u64 5, .int .u64 7] 22)) := ba (Below.refl _ _) _
  have HA : Hid (Calls Tryd.prog 12 #[.string ⟨#[107]⟩, .slice (some ⟨w.heap.size, 0, none⟩) 2 2, .int .i64 0] (w.alloc (.cells #[.int .u64 5, .int .u64 7] 22)) fun e w' => ∃ B d, e = .returned (.tuple #[.slice B 2 d, .int .i64 0]) ∧ VR vi w' B [0, 1] ∧ Below w.heap.size w w') := Lib.hid (by
    refine (vabove_yes [107] (some ⟨w.heap.size, 0, none⟩) 2 2 [5, 7] 0 (w.alloc (.cells #[.int .u64 5, .int .u64 7] 22)) (by omega) (by simp) (blk_VR (Blk.new w 22 (([5, 7] : List Nat).map vu).toArray)) rfl (by simp) (by omega) (hT.later HB1)).mono ?_
    rintro e w' ⟨B, d, m, hm, rfl, ho, hb⟩
    rw [abL_all] at hm ho
    have hm2 : m = 2 := hm
    subst hm2
    exact ⟨B, d, rfl, own_VR ho rfl, bt HB1 hb⟩)
  clear HB1 hT
  have HS := Lib.hid (fun B d g W (h : VR vi W B [0, 1]) (h2 : VR vi W (some ⟨g, 0, none⟩) [0, 1]) => vsame_any B (some ⟨g, 0, none⟩) d 2 2 2 [0, 1] [0, 1] W h h2 rfl rfl (by omega) (by omega))
  go_enter Tryd.func6, Tryd.ntmps6
  go_wp2_with fail
  refine HA.out.mono ?_
  rintro e w1 ⟨B, d, rfl, hr, hb⟩
  have HS2 : Hid (Calls Tryd.prog 9 #[.slice B 2 d, .slice (some ⟨w1.heap.size, 0, none⟩) 2 2] (w1.alloc (.cells #[.int .i64 0, .int .i64 1] 3)) fun e w' => e = .returned (.bool true) ∧ Below w.heap.size w w') := Lib.hid (by
    have hb1 := ba (Below.refl w1.heap.size w1) (.cells #[.int .i64 0, .int .i64 1] 3)
    refine (HS.out B d w1.heap.size _ (hr.later hb1) (blk_VR (Blk.new w1 3 (([0, 1] : List Nat).map vi).toArray))).mono ?_
    rintro e w' ⟨rfl, hb2⟩
    exact ⟨by simp, bt (bt hb hb1) hb2⟩)
  clear HS hr hb HA
  go_wp2_with fail
  refine HS2.out.mono ?_
  rintro e w2 ⟨rfl, hb2⟩
  go_wp2
  go_ret
  exact ⟨rfl, hb2⟩
end Go.Proofs.YtcakhepiceilkaaDoor
/- A uint64 and a uint32 as natural numbers. Nothing of any function. -/
namespace Go.Proofs.YtcakhepiceilkaaDoor
open Go.ChangeShapes Go.WideShapes Go.ChangeAt Go.RowKit Go.Joins Go.Deep

theorem u64_nat {n : Int} (h : (Lit.int .u64 n).wf = true) : ∃ m : Nat, n = (m : Int) ∧ m < 18446744073709551616 := by
  simp [Lit.wf] at h
  have h1 : IntKind.u64.min = 0 := by decide
  have h2 : IntKind.u64.max = 18446744073709551615 := by decide
  rw [h1, h2] at h
  exact ⟨n.toNat, by omega, by omega⟩
theorem u32_nat {n : Int} (h : (Lit.int .u32 n).wf = true) : ∃ m : Nat, n = (m : Int) ∧ m < 4294967296 := by
  simp [Lit.wf] at h
  have h1 : IntKind.u32.min = 0 := by decide
  have h2 : IntKind.u32.max = 4294967295 := by decide
  rw [h1, h2] at h
  exact ⟨n.toNat, by omega, by omega⟩
end Go.Proofs.YtcakhepiceilkaaDoor
/- A row of uint64s that came in as a parameter, opened; and cut. -/
namespace Go.Proofs.YtcakhepiceilkaaDoor
open Go.ChangeShapes Go.WideShapes Go.ChangeAt Go.RowKit Go.Joins Go.Deep

set_option maxRecDepth 100000 in
theorem open_vrow {H : Type} {enc : TypeId × Value → H} {W : World} {base : Nat} {sp : Nat → Bool} {r : Reach} {b0 : Nat} {v : Value} {d : DataW H} {p : List MemPlace}
    (hv : Value.okWide Tryd.prog W r b0 23 v) (h : DataW.Trod enc Tryd.prog W base sp true 23 v d p) :
    ∃ (A : Option Addr) (cap : Nat) (L : List Nat), v = .slice A L.length cap ∧ L.length ≤ cap ∧ (L.length : Int) ≤ 9223372036854775807 ∧ VR vu W A L ∧ ∀ x ∈ L, x < 18446744073709551616 := by
  obtain ⟨a0, len0, cap0, rfl⟩ := okWide_slice Tryd.underlying23 hv
  obtain ⟨fuel, hf⟩ := h
  rcases open_ints Tryd.underlying23 Tryd.underlying22 (by kernel_rfl) hf with ⟨hcs, _⟩ | ⟨a, len, cap, zs, hcs, _, hle, hcap, hm, _, hcell, hwf⟩
  · exact ⟨none, 0, [], by simpa [Value.cells] using hcs, Nat.le_refl _, by simp, VR.nil _ _ _, by simp⟩
  · have hlm : len ≤ zs.length := by rw [hm]; split <;> omega
    have hLl : ((zs.take len).map Int.toNat).length = len := by simp; omega
    have hnn : ∀ j, j < len → 0 ≤ zs.getD j 0 ∧ zs.getD j 0 < 18446744073709551616 := fun j hj => by
      have hin : zs.getD j 0 ∈ zs := by
        have e : zs.getD j 0 = zs[j]'(by omega) := by simp [List.getD, show j < zs.length by omega]
        rw [e]; exact List.getElem_mem _
      obtain ⟨m, e, hlt⟩ := u64_nat (hwf _ hin)
      rw [e]; omega
    have hat : ∀ j, j < len → ((zs.take len).map Int.toNat).getD j 0 = (zs.getD j 0).toNat := fun j hj => by
      have h2 : j < zs.length := by omega
      simp [List.getD, hj, h2]
    unfold maxLen at hcap
    refine ⟨some a, cap, (zs.take len).map Int.toNat, by rw [hLl]; simpa [Value.cells] using hcs, by omega, by omega, fun j hj => ?_, fun x hx => ?_⟩
    · rw [hLl] at hj
      have hc := hcell j (by omega)
      obtain ⟨g, off, s⟩ := a
      have hs : s = none := by
        have := hcell 0 (by omega)
        simpa [Addr.add] using World.cell?_spot this
      subst hs
      rw [Go.WideShapes.add_plain] at hc
      refine ⟨g, off, rfl, ?_⟩
      rw [hat j hj, hc]
      have := hnn j hj
      show some (Value.int .u64 _) = some (Value.int .u64 _)
      rw [Int.toNat_of_nonneg this.1]
    · obtain ⟨j, hj, rfl⟩ := List.getElem_of_mem hx
      rw [hLl] at hj
      have e : ((zs.take len).map Int.toNat)[j]'(by rw [hLl]; exact hj) = (zs.getD j 0).toNat := by
        rw [← hat j hj]
        simp [List.getD, hj, show j < zs.length by omega]
      rw [e]
      have := hnn j hj
      omega

theorem vcut_run (A : Option Addr) (len cap m : Nat) (hm : m ≤ cap) (W : World) : (Instr.slice 23 (.slice A len cap) none (some (.int .i64 (m : Int))) none).run Tryd.prog W = .ok (.slice A m cap) W := by
  obtain ⟨i, hi⟩ : ∃ i, Tryd.prog.info? 22 = some i := Option.isSome_iff_exists.1 (by kernel_rfl)
  have hb : (Instr.sliceBounds true len cap none (some (.int .i64 (m : Int))) none).run Tryd.prog W = .ok (0, m, cap) W := by
    have h1 : (0 : Int) ≤ (m : Int) ∧ (m : Int) ≤ (cap : Int) := by omega
    simp [Instr.sliceBounds, Instr.sliceBound, asIntOf, h1]
    omega
  have hA : (if cap = 0 then A else A.map fun x => x.add (0 * i.size)) = A := by
    split
    · rfl
    · cases A <;> simp [Addr.add]
  simp [Instr.slice, run_underlying (P := Tryd.prog) (w := W) Tryd.underlying23, hb, sizeOf, typeInfo, hi]
  simpa using hA
end Go.Proofs.YtcakhepiceilkaaDoor
/- The walk of TowerHeights. -/
namespace Go.Proofs.YtcakhepiceilkaaDoor
open Go.RowKit

set_option maxRecDepth 100000 in
set_option maxHeartbeats 8000000 in
theorem vlawH_any (k0 : List UInt8) (n0 : Nat) (A : Option Addr) (c : Nat) (L0 : List Nat) (w : World) (hk0 : (k0.length : Int) ≤ 9223372036854775807) (hn0 : n0 < 18446744073709551616) (hA0 : VR vu w A L0) (hL0 : (L0.length : Int) ≤ 9223372036854775807) (hc0 : L0.length ≤ c) (hx0 : ∀ x ∈ L0, x < 18446744073709551616) (hT : VTab w) :
    Calls Tryd.prog 3 #[.string ⟨k0.toArray⟩, .int .u64 (n0 : Int), .slice A L0.length c] w fun e w' => e = .returned (.bool true) ∧ Below w.heap.size w w' := by
  have hz0 := size_mk k0
  obtain ⟨N, hN⟩ : ∃ N, k0.length = N := ⟨_, rfl⟩
  obtain ⟨M, hM⟩ : ∃ M, L0.length = M := ⟨_, rfl⟩
  rw [hN] at hz0 hk0
  rw [hM] at hL0 hc0 ⊢
  obtain ⟨a, ha⟩ : ∃ a, min N 80 = a := ⟨_, rfl⟩
  obtain ⟨b, hb⟩ : ∃ b, min M 12 = b := ⟨_, rfl⟩
  have hex := extract_take k0 a
  have hkl : (k0.take a).length ≤ 60000 := by rw [List.length_take]; omega
  have hLl : (L0.take b).length = b := by rw [List.length_take]; omega
  have hAb : VR vu w A (L0.take b) := hA0.take b
  have hxb : ∀ x ∈ L0.take b, x < 18446744073709551616 := fun x hx => hx0 x (List.mem_of_mem_take hx)
  have h1 : (a : Int) ≤ (N : Int) := by omega
  have h2 : min (N : Int) 80 = (a : Int) := by omega
  have h3 : a ≤ N := by omega
  have h4 : min (M : Int) 12 = (b : Int) := by omega
  have hsl := vcut_run A M c b (by omega)
  have hb12 : b ≤ 65536 := by omega
  have HAL := Lib.hid (fun W (h : Below w.heap.size w W) => valive_any W (hT.later h))
  have HH := Lib.hid (fun W (h : Below w.heap.size w W) => vheight_any (k0.take a) n0 W hkl hn0 (hT.later h))
  have HRH := Lib.hid (fun W => vrheight_any (k0.take a) n0 W hkl hn0)
  have HS := Lib.hid (fun W (h : Below w.heap.size w W) => vheights_any (k0.take a) A b c (L0.take b) W hkl (hAb.later h) hLl hxb hb12 (hT.later h))
  have HRS := Lib.hid (fun W (h : Below w.heap.size w W) => vrheights_any (k0.take a) A b c (L0.take b) W hkl (hAb.later h) hLl hxb hb12)
  have HTl : Hid ((hsL (k0.take a) (L0.take b)).length = b) := Lib.hid (by rw [hsL_len, hLl])
  clear hA0 hAb hxb hkl hLl ha hb hN hM hx0 hT
  generalize hsL (k0.take a) (L0.take b) = T at *
  generalize hL (k0.take a) n0 = x at *
  generalize k0.take a = k at *
  have HSM := Lib.hid (fun A' B' c' d' W (h : VR vi W A' T) (h2 : VR vi W B' T) => vsame_same A' B' c' d' b T W h h2 HTl.out hb12)
  go_enter Tryd.func3, Tryd.ntmps3
  go_wp2_with fail
  go_quiet (fail)
  have hb0 : Below w.heap.size w (w.drewN nq) := bdn' (Below.refl _ _) _
  generalize w.drewN nq = w0 at hb0 ⊢
  clear hsl hex hz0 h1 h2 h3 h4 hk0 hL0 hc0
  go_wp2_with fail
  refine (HAL.out _ hb0).mono ?_
  rintro e w1 ⟨rfl, hb1⟩
  have hB1 := bt hb0 hb1
  clear hb0 hb1
  go_wp2_with fail
  refine (HH.out _ hB1).mono ?_
  rintro e w2 ⟨rfl, hb2⟩
  have hB2 := bt hB1 hb2
  clear hB1 hb2
  go_wp2_with fail
  refine (HRH.out _).mono ?_
  rintro e w3 ⟨rfl, hb3⟩
  have hB3 := bt hB2 hb3
  clear hB2 hb3
  go_wp2_with fail
  refine (HS.out _ hB3).mono ?_
  rintro e w4 ⟨g, rfl, hg, hb4⟩
  have hB4 := bt hB3 hb4
  have HG := Lib.hid (blk_VR hg)
  clear hB3 hb4 hg
  go_wp2_with fail
  refine (HRS.out _ hB4).mono ?_
  rintro e w5 ⟨g2, c2, rfl, ho, hb5⟩
  have hB5 := bt hB4 hb5
  have HG5 := Lib.hid (HG.out.later hb5)
  have HO := Lib.hid (own_VR ho HTl.out)
  clear hB4 hb5 ho HG
  go_wp2_with fail
  refine (HSM.out _ _ _ _ _ HG5.out HO.out).mono ?_
  rintro e w6 ⟨rfl, hb6⟩
  have hB6 := bt hB5 hb6
  clear hB5 hb6
  go_wp2
  go_ret
  exact ⟨rfl, hB6⟩
end Go.Proofs.YtcakhepiceilkaaDoor
/- The condition of stage 15's rows: what the library's table holds when the call begins; and a start that meets it. -/
namespace Go.Proofs.YtcakhepiceilkaaDoor
open Go.ChangeShapes Go.WideShapes Go.ChangeAt Go.RowKit Go.Joins Go.Deep

/-- What the rows list. -/
def vlaid : List (String × DataW Unit) := [("math/bits.deBruijn64tab", Rows.laid_math_bits_deBruijn64tab)]
theorem vgTab : Tryd.prog.globalNamed "math/bits.deBruijn64tab" = some 0 := by kernel_rfl
theorem vtTab : (Tryd.prog.globals[0]?).map (·.type) = some 53 := by kernel_rfl
theorem vlaid_list : (Rows.laid_math_bits_deBruijn64tab : DataW Unit) = .agg (Lib.deBruijn64tab.map fun n : Nat => .lit (.int .u8 (n : Int))) := rfl
set_option maxRecDepth 100000 in
/-- The door's own heap meets the condition. -/
theorem vdoor_met (os : Os) (args : Array Value) : laidMetH Tryd.prog vlaid ((World.doorLaid Tryd.prog 14 os).forCall (fun _ _ => 0) ⟨#[], args, []⟩).memory :=
  laidMetH_of_parts3 (fuel := 8) (laidMet_of_run' 8 (by kernel_rfl) (by kernel_rfl)) (by kernel_rfl) (by kernel_rfl)
/-- What the condition gives the walks. -/
theorem vtab_of_laid {W : World} (h : laidMetH Tryd.prog vlaid W) : VTab W := by
  rw [MakeChecks.laidMetH_plain _ _ _ (by kernel_rfl)] at h
  obtain ⟨ps, ⟨g0, t0, cs0, f0, p0, q0, hg0, ht0, hv0, hd0, _⟩, _, _⟩ := h
  obtain rfl := Option.some.inj (vgTab.symm.trans hg0)
  obtain rfl := Option.some.inj (vtTab.symm.trans ht0)
  obtain ⟨xs, m1, rfl, hx1, hlen, hn, hel⟩ := DataW.trod_array Tryd.underlying53 hd0
  have c1 : Tryd.prog.cellsOf 5 = 1 := by kernel_rfl
  simp only [Prod.mk.injEq] at hx1
  have hx := hx1.1
  rw [vlaid_list] at hx
  injection hx with hx
  intro j hj
  have hej := hel j hj
  rw [c1, Nat.mul_one, List.getElem?_eq_getElem (show j < xs.length by omega)] at hej
  obtain ⟨k, e1, e2, _⟩ := DataW.trod_int Tryd.underlying5 hej
  have hk : k = (Lib.deBruijn64tab.getD j 0 : Nat) := by
    have h1 : (Lib.deBruijn64tab.map fun n : Nat => (DataW.lit (.int .u8 (n : Int)) : DataW Unit))[j]? = (xs.map (·.1))[j]? := by rw [hx]
    have h2 : j < Lib.deBruijn64tab.length := hj
    rw [List.getElem?_map, List.getElem?_map, List.getElem?_eq_getElem h2, List.getElem?_eq_getElem (show j < xs.length by omega), e2] at h1
    simp only [Option.map_some, Option.some.injEq, DataW.lit.injEq, Lit.int.injEq, true_and] at h1
    rw [← h1]
    simp [List.getD, h2]
  have hc := World.var?_cell hg0 hv0 j
  rw [hc, ← hk]
  have h3 : (cs0.toList.drop j)[0]? = some (.int .u8 k) := by
    have : ((cs0.toList.drop j).take 1)[0]? = some (.int .u8 k) := by rw [e1]; rfl
    rwa [List.getElem?_take, if_pos (by omega)] at this
  rw [List.getElem?_drop, Nat.add_zero, Array.getElem?_toList] at h3
  exact h3
end Go.Proofs.YtcakhepiceilkaaDoor
/- The walk of TowerAbove. -/
namespace Go.Proofs.YtcakhepiceilkaaDoor
open Go.RowKit

set_option maxRecDepth 100000 in
set_option maxHeartbeats 8000000 in
theorem vlawA_any (k0 : List UInt8) (A : Option Addr) (c : Nat) (L0 : List Nat) (lev : Int) (w : World) (hk0 : (k0.length : Int) ≤ 9223372036854775807) (hA0 : VR vu w A L0) (hL0 : (L0.length : Int) ≤ 9223372036854775807) (hc0 : L0.length ≤ c) (hx0 : ∀ x ∈ L0, x < 18446744073709551616) (hT : VTab w) :
    Calls Tryd.prog 4 #[.string ⟨k0.toArray⟩, .slice A L0.length c, .int .i64 lev] w fun e w' => e = .returned (.bool true) ∧ Below w.heap.size w w' := by
  have hz0 := size_mk k0
  obtain ⟨N, hN⟩ : ∃ N, k0.length = N := ⟨_, rfl⟩
  obtain ⟨M, hM⟩ : ∃ M, L0.length = M := ⟨_, rfl⟩
  rw [hN] at hz0 hk0
  rw [hM] at hL0 hc0 ⊢
  obtain ⟨a, ha⟩ : ∃ a, min N 80 = a := ⟨_, rfl⟩
  obtain ⟨b, hb⟩ : ∃ b, min M 12 = b := ⟨_, rfl⟩
  have hex := extract_take k0 a
  have hkl : (k0.take a).length ≤ 60000 := by rw [List.length_take]; omega
  have hLl : (L0.take b).length = b := by rw [List.length_take]; omega
  have hAb : VR vu w A (L0.take b) := hA0.take b
  have hxb : ∀ x ∈ L0.take b, x < 18446744073709551616 := fun x hx => hx0 x (List.mem_of_mem_take hx)
  have h1 : (a : Int) ≤ (N : Int) := by omega
  have h2 : min (N : Int) 80 = (a : Int) := by omega
  have h3 : a ≤ N := by omega
  have h4 : min (M : Int) 12 = (b : Int) := by omega
  have hsl := vcut_run A M c b (by omega)
  have hb12 : b ≤ 65536 := by omega
  have HAL := Lib.hid (fun W (h : Below w.heap.size w W) => valive_any W (hT.later h))
  by_cases hlev : 0 ≤ lev ∧ lev ≤ 8
  · have HU := Lib.hid (fun W (h : Below w.heap.size w W) => vabove_yes (k0.take a) A b c (L0.take b) lev W hlev hkl (hAb.later h) hLl hxb hb12 (hT.later h))
    have HRU := Lib.hid (fun W (h : Below w.heap.size w W) => vrabove_any (k0.take a) A b c (L0.take b) lev W hkl (hAb.later h) hLl hxb hb12)
    have hTl := abL_len (k0.take a) (L0.take b) lev b
    have g1 : ¬ lev < 0 := by omega
    have g2 : ¬ 8 < lev := by omega
    have g3 : 0 ≤ lev := by omega
    have g4 : lev ≤ 8 := by omega
    clear hA0 hAb hxb hkl hLl ha hb hN hM hx0 hT hlev
    generalize abL (k0.take a) (L0.take b) lev b = T at *
    generalize k0.take a = k at *
    have HTl : Hid (T.length ≤ 65536) := Lib.hid (by omega)
    clear hTl
    have HSM := Lib.hid (fun A' B' c' d' m W (hm : m = T.length) (h : VR vi W A' T) (h2 : VR vi W B' T) => vsame_same A' B' c' d' m T W h h2 hm.symm (by have := HTl.out; omega))
    go_enter Tryd.func4, Tryd.ntmps4
    go_wp2_with fail
    go_quiet (fail)
    have hb0 : Below w.heap.size w (w.drewN nq) := bdn' (Below.refl _ _) _
    generalize w.drewN nq = w0 at hb0 ⊢
    clear hsl hex hz0 h1 h2 h3 h4 hk0 hL0 hc0
    go_wp2_with fail
    refine (HU.out _ hb0).mono ?_
    rintro e w1 ⟨B, d, m, hm, rfl, ho, hb1⟩
    have HM := Lib.hid hm
    have hB1 := bt hb0 hb1
    have HG := Lib.hid (own_VR ho hm.symm)
    clear hb0 hb1 hm ho
    go_wp2_with fail
    refine (HAL.out _ hB1).mono ?_
    rintro e w2 ⟨rfl, hb2⟩
    have hB2 := bt hB1 hb2
    have HG2 := Lib.hid (HG.out.later hb2)
    clear hB1 hb2 HG
    go_wp2_with fail
    refine (HRU.out _ hB2).mono ?_
    rintro e w3 ⟨g, c3, m3, hm3, rfl, ho, hb3⟩
    obtain rfl : m3 = m := by rw [hm3, HM.out]
    have hB3 := bt hB2 hb3
    have HG3 := Lib.hid (HG2.out.later hb3)
    have HO := Lib.hid (own_VR ho hm3.symm)
    clear hB2 hb3 ho HG2 hm3
    go_wp2_with fail
    refine (HSM.out _ _ _ _ _ _ HM.out HG3.out HO.out).mono ?_
    rintro e w6 ⟨rfl, hb6⟩
    have hB6 := bt hB3 hb6
    clear hB3 hb6
    go_wp2
    go_ret
    exact ⟨rfl, hB6⟩
  · have HU := Lib.hid (fun W => vabove_no ⟨(k0.take a).toArray⟩ A b c lev W hlev)
    clear hA0 hAb hxb hkl hLl ha hb hN hM hx0 hT
    generalize k0.take a = k at *
    by_cases hl0 : lev < 0
    · clear hlev
      go_enter Tryd.func4, Tryd.ntmps4
      go_wp2_with fail
      go_quiet (fail)
      have hb0 : Below w.heap.size w (w.drewN nq) := bdn' (Below.refl _ _) _
      generalize w.drewN nq = w0 at hb0 ⊢
      clear hsl hex hz0 h1 h2 h3 h4 hk0 hL0 hc0
      go_wp2_with fail
      refine (HU.out _).mono ?_
      rintro e w1 ⟨rfl, rfl⟩
      go_wp2_with fail
      refine (HAL.out _ hb0).mono ?_
      rintro e w2 ⟨rfl, hb2⟩
      have hB2 := bt hb0 hb2
      clear hb0 hb2
      go_wp2
      go_ret
      exact ⟨rfl, hB2⟩
    · have hl8 : 8 < lev := by omega
      have hl1 : 0 ≤ lev := by omega
      clear hlev
      go_enter Tryd.func4, Tryd.ntmps4
      go_wp2_with fail
      go_quiet (fail)
      have hb0 : Below w.heap.size w (w.drewN nq) := bdn' (Below.refl _ _) _
      generalize w.drewN nq = w0 at hb0 ⊢
      clear hsl hex hz0 h1 h2 h3 h4 hk0 hL0 hc0
      go_wp2_with fail
      refine (HU.out _).mono ?_
      rintro e w1 ⟨rfl, rfl⟩
      go_wp2_with fail
      refine (HAL.out _ hb0).mono ?_
      rintro e w2 ⟨rfl, hb2⟩
      have hB2 := bt hb0 hb2
      clear hb0 hb2
      go_wp2
      go_ret
      exact ⟨rfl, hB2⟩
end Go.Proofs.YtcakhepiceilkaaDoor
/- Levels, counted: so often has each number come by, behind so many levels and so many places of the next one. Plain lists. -/
namespace Go.Proofs.YtcakhepiceilkaaDoor

/-- Those that have come by once more, and the others. -/
def vcn (H : Nat → Nat) (n lev : Nat) (S : List Nat) : List Nat := (List.range n).map fun i => if i ∈ S then lev + 1 else min (H i) lev
theorem vcn_len (H : Nat → Nat) (n lev : Nat) (S : List Nat) : (vcn H n lev S).length = n := by simp [vcn]
theorem vcn_at (H : Nat → Nat) (n lev : Nat) (S : List Nat) (i : Nat) (h : i < n) : (vcn H n lev S).getD i 0 = if i ∈ S then lev + 1 else min (H i) lev := by
  simp [vcn, List.getD, h]
theorem vcn_set (H : Nat → Nat) (n lev : Nat) (S : List Nat) (i : Nat) : (vcn H n lev S).set i (lev + 1) = vcn H n lev (S ++ [i]) := by
  apply List.ext_getElem
  · simp [vcn]
  · intro t h1 h2
    rw [List.getElem_set]
    simp only [vcn, List.getElem_map, List.getElem_range, List.mem_append, List.mem_singleton]
    by_cases e : i = t
    · subst e; simp
    · rw [if_neg e]
      have : ¬ t = i := fun x => e x.symm
      simp [this]
theorem vcn_zero (H : Nat → Nat) (n : Nat) : vcn H n 0 [] = List.replicate n 0 := by
  apply List.ext_getElem
  · simp [vcn]
  · intro t h1 h2
    simp [vcn]
theorem vcn_done {H : Nat → Nat} {n : Nat} (hH : ∀ i, H i ≤ 8) (i : Nat) (h : i < n) : (vcn H n 9 []).getD i 0 = H i := by
  rw [vcn_at _ _ _ _ _ h]
  have := hH i
  simp
  omega

/-- A number's height, by its place. -/
def hAt (k : List UInt8) (L : List Nat) (i : Nat) : Nat := hL k (L.getD i 0)
theorem hAt_le (k : List UInt8) (L : List Nat) (i : Nat) : 1 ≤ hAt k L i ∧ hAt k L i ≤ 8 := hL_le _ _
theorem abL_mem (k : List UInt8) (L : List Nat) (lev n i : Nat) : i ∈ abL k L (lev : Int) n ↔ i < n ∧ lev < hAt k L i := by
  unfold abL hAt
  rw [List.mem_filter, List.mem_range]
  simp
theorem abL_rises (k : List UInt8) (L : List Nat) (lev : Int) (n : Nat) : (abL k L lev n).Pairwise (· < ·) := List.Pairwise.filter _ List.pairwise_lt_range
theorem vget_mem {T : List Nat} {j : Nat} (h : j < T.length) : T.getD j 0 ∈ T := by
  rw [List.getD, List.getElem?_eq_getElem h]
  exact List.getElem_mem h
theorem abL_far (k : List UInt8) (L : List Nat) (lev : Int) (n j : Nat) (h : j < (abL k L lev n).length) : (abL k L lev n).getD j 0 ∉ (abL k L lev n).take j := by
  have hp := List.pairwise_iff_getElem.1 (abL_rises k L lev n)
  intro hm
  obtain ⟨t, ht, e⟩ := List.getElem_of_mem hm
  rw [List.length_take] at ht
  have h1 := hp t j (by omega) h (by omega)
  rw [List.getElem_take] at e
  have e2 : (abL k L lev n).getD j 0 = (abL k L lev n)[j] := by simp [List.getD, h]
  omega

/-- So often has each come by. -/
def vC (k : List UInt8) (L : List Nat) (n lev j : Nat) : List Nat := vcn (hAt k L) n lev ((abL k L (lev : Int) n).take j)
theorem vC_len (k : List UInt8) (L : List Nat) (n lev j : Nat) : (vC k L n lev j).length = n := vcn_len _ _ _ _
theorem vC_at (k : List UInt8) (L : List Nat) (n lev j : Nat) (h : j < (abL k L (lev : Int) n).length) : (abL k L (lev : Int) n).getD j 0 < n ∧ (vC k L n lev j).getD ((abL k L (lev : Int) n).getD j 0) 0 = lev ∧ (vC k L n lev j).set ((abL k L (lev : Int) n).getD j 0) (lev + 1) = vC k L n lev (j + 1) := by
  have hm := (abL_mem k L lev n _).1 (vget_mem h)
  have hf := abL_far k L (lev : Int) n j h
  refine ⟨hm.1, ?_, ?_⟩
  · unfold vC
    rw [vcn_at _ _ _ _ _ hm.1, if_neg hf]
    omega
  · unfold vC
    rw [vcn_set]
    congr 1
    rw [List.take_add_one]
    simp [List.getD, h]
theorem vC_rises (k : List UInt8) (L : List Nat) (n : Nat) (lev : Int) (j : Nat) (h : j + 1 < (abL k L lev n).length) : (abL k L lev n).getD j 0 < (abL k L lev n).getD (j + 1) 0 := by
  have hp := List.pairwise_iff_getElem.1 (abL_rises k L lev n) j (j + 1) (by omega) h (by omega)
  have e1 : (abL k L lev n).getD j 0 = (abL k L lev n)[j] := by simp [List.getD, show j < (abL k L lev n).length by omega]
  have e2 : (abL k L lev n).getD (j + 1) 0 = (abL k L lev n)[j + 1] := by simp [List.getD, h]
  omega
theorem vC_end (k : List UInt8) (L : List Nat) (n lev : Nat) : vC k L n lev (abL k L (lev : Int) n).length = vC k L n (lev + 1) 0 := by
  unfold vC
  rw [List.take_length, List.take_zero]
  apply List.ext_getElem
  · simp [vcn]
  · intro t h1 h2
    have ht : t < n := by simpa [vcn] using h1
    simp only [vcn, List.getElem_map, List.getElem_range, abL_mem]
    by_cases h : lev < hAt k L t
    · rw [if_pos ⟨ht, h⟩]; simp; omega
    · rw [if_neg (fun e => h e.2)]; simp; omega
theorem vC_start (k : List UInt8) (L : List Nat) (n : Nat) : vC k L n 0 0 = List.replicate n 0 := by
  unfold vC
  rw [List.take_zero, vcn_zero]
theorem vC_done (k : List UInt8) (L : List Nat) (n i : Nat) (h : i < n) : (vC k L n 9 0).getD i 0 = hAt k L i := by
  unfold vC
  rw [List.take_zero]
  exact vcn_done (fun i => (hAt_le k L i).2) i h
theorem abL_top (k : List UInt8) (L : List Nat) (n : Nat) : abL k L 8 n = [] := by
  apply List.eq_nil_iff_forall_not_mem.2
  intro i hi
  have := (abL_mem k L 8 n i).1 hi
  have := (hAt_le k L i).2
  omega
end Go.Proofs.YtcakhepiceilkaaDoor
/- The walk of TowerFalls. -/
namespace Go.Proofs.YtcakhepiceilkaaDoor
open Go.RowKit

theorem vown_far {W : World} {base G : Nat} {e : TypeId} {size n : Nat} {v u : Value} {xs : List Value} {o : Nat} (h : W.ownsRow base e size v n xs) (hG : G < base) : (W.setCell ⟨G, o, none⟩ u).ownsRow base e size v n xs :=
  vown_kept h (fun k hk => Below.heap_setCell W ⟨G, o, none⟩ u k (by
    have := (vown_blk h k hk).1
    show k ≠ G
    omega))

theorem vblk_set {W : World} {g x y : Nat} {t : TypeId} {T T' : List Nat} (q : Nat → Value) (h : Blk W g t ((T.map q).toArray)) (e : T.set x y = T') : Blk (W.setCell ⟨g, x, none⟩ (q y)) g t ((T'.map q).toArray) := by
  have h2 := h.set_ x (q y)
  have e2 : ((T.map q).toArray).setIfInBounds x (q y) = (T'.map q).toArray := by
    apply Array.toList_inj.1
    rw [Array.toList_setIfInBounds, ← e, List.map_set]
  rwa [e2] at h2
theorem vblk_cell {W : World} {g x y : Nat} {t : TypeId} {T : List Nat} (q : Nat → Value) (h : Blk W g t ((T.map q).toArray)) (hx : x < T.length) (e : T.getD x 0 = y) : W.cell? ⟨g, x, none⟩ = some (q y) ∧ W.frozen? ⟨g, x, none⟩ = false := by
  refine ⟨?_, h.frozen x⟩
  rw [h.cell x, List.getElem?_toArray, vqs_at q T x hx, e]

set_option maxRecDepth 100000 in
set_option maxHeartbeats 16000000 in
theorem vlawF_any (k0 : List UInt8) (A : Option Addr) (c : Nat) (L0 : List Nat) (w : World) (hk0 : (k0.length : Int) ≤ 9223372036854775807) (hA0 : VR vu w A L0) (hL0 : (L0.length : Int) ≤ 9223372036854775807) (hc0 : L0.length ≤ c) (hx0 : ∀ x ∈ L0, x < 18446744073709551616) (hT : VTab w) :
    Calls Tryd.prog 5 #[.string ⟨k0.toArray⟩, .slice A L0.length c] w fun e w' => e = .returned (.bool true) ∧ Below w.heap.size w w' := by
  have hz0 := size_mk k0
  obtain ⟨N, hN⟩ : ∃ N, k0.length = N := ⟨_, rfl⟩
  obtain ⟨M, hM⟩ : ∃ M, L0.length = M := ⟨_, rfl⟩
  rw [hN] at hz0 hk0
  rw [hM] at hL0 hc0 ⊢
  obtain ⟨a, ha⟩ : ∃ a, min N 80 = a := ⟨_, rfl⟩
  obtain ⟨n, hb⟩ : ∃ b, min M 8 = b := ⟨_, rfl⟩
  have hex := extract_take k0 a
  have hkl : (k0.take a).length ≤ 60000 := by rw [List.length_take]; omega
  have hLl : (L0.take n).length = n := by rw [List.length_take]; omega
  have hAb : VR vu w A (L0.take n) := hA0.take n
  have hxb : ∀ x ∈ L0.take n, x < 18446744073709551616 := fun x hx => hx0 x (List.mem_of_mem_take hx)
  have h1 : (a : Int) ≤ (N : Int) := by omega
  have h2 : min (N : Int) 80 = (a : Int) := by omega
  have h3 : a ≤ N := by omega
  have h4 : min (M : Int) 8 = (n : Int) := by omega
  have hsl := vcut_run A M c n (by omega)
  have hn8 : n ≤ 8 := by omega
  have hn : n ≤ 65536 := by omega
  have HAL := Lib.hid (fun W (h : Below w.heap.size w W) => valive_any W (hT.later h))
  have HS := Lib.hid (fun W (h : Below w.heap.size w W) => vheights_any (k0.take a) A n c (L0.take n) W hkl (hAb.later h) hLl hxb hn (hT.later h))
  have HH := Lib.hid (fun j W (hj : j < n) (h : Below w.heap.size w W) => (show Calls Tryd.prog 7 #[.string ⟨(k0.take a).toArray⟩, .int .u64 ((L0.take n).getD j 0 : Nat)] W fun e w' => e = .returned (.int .i64 (hAt (k0.take a) (L0.take n) j : Int)) ∧ Below W.heap.size W w' from vheight_any (k0.take a) ((L0.take n).getD j 0) W hkl (hxb _ (vget_mem (by omega))) (hT.later h)))
  have HR := Lib.hid (fun j W (hj : j < n) (hb : Below w.heap.size w W) => (hAb.later hb) j (by omega))
  have HU0 := Lib.hid (fun (lev : Nat) W (hl : lev ≤ 8) (h : Below w.heap.size w W) => vabove_yes (k0.take a) A n c (L0.take n) (lev : Int) W (by omega) hkl (hAb.later h) hLl hxb hn (hT.later h))
  have HTop0 : Hid (abL (k0.take a) (L0.take n) ((8 : Nat) : Int) n = []) := Lib.hid (abL_top _ _ _)
  have HLe0 := Lib.hid (fun (lev : Nat) => abL_len (k0.take a) (L0.take n) (lev : Int) n)
  have HCa0 := Lib.hid (fun (lev j : Nat) (h : j < (abL (k0.take a) (L0.take n) (lev : Int) n).length) => vC_at (k0.take a) (L0.take n) n lev j h)
  have HCr0 := Lib.hid (fun (lev : Nat) (j : Nat) (h : j + 1 < (abL (k0.take a) (L0.take n) (lev : Int) n).length) => vC_rises (k0.take a) (L0.take n) n (lev : Int) j h)
  have HCe0 := Lib.hid (fun (lev : Nat) => vC_end (k0.take a) (L0.take n) n lev)
  have HCs := Lib.hid (vC_start (k0.take a) (L0.take n) n)
  have HCd := Lib.hid (fun i (h : i < n) => vC_done (k0.take a) (L0.take n) n i h)
  have HCl := Lib.hid (fun lev j => vC_len (k0.take a) (L0.take n) n lev j)
  have HHl := Lib.hid (fun i => hAt_le (k0.take a) (L0.take n) i)
  have HSl : Hid ((hsL (k0.take a) (L0.take n)).length = n) := Lib.hid (by rw [hsL_len, hLl])
  have HSa : Hid (∀ i, i < n → (hsL (k0.take a) (L0.take n)).getD i 0 = hAt (k0.take a) (L0.take n) i) := Lib.hid (fun i h => hsL_at _ _ _ (by omega))
  clear hA0 hAb hxb hkl hLl ha hb hN hM hx0 hT
  generalize hsL (k0.take a) (L0.take n) = T0 at *
  generalize vC (k0.take a) (L0.take n) n = C at *
  generalize hAt (k0.take a) (L0.take n) = H at *
  obtain ⟨T, hT⟩ : ∃ T : Nat → List Nat, T = fun lev : Nat => abL (k0.take a) (L0.take n) (lev : Int) n := ⟨_, rfl⟩
  have HU : Hid (∀ (lev : Nat) W, lev ≤ 8 → Below w.heap.size w W → Calls Tryd.prog 12 #[.string ⟨(k0.take a).toArray⟩, .slice A n c, .int .i64 (lev : Int)] W fun e w' => ∃ B d m, m = (T lev).length ∧ e = .returned (.tuple #[.slice B m d, .int .i64 0]) ∧ w'.ownsRow W.heap.size 3 1 (.slice B m d) m ((T lev).map vi) ∧ Below W.heap.size W w') := by rw [hT]; exact HU0
  have HTop : Hid (T 8 = []) := by rw [hT]; exact HTop0
  have HLe : Hid (∀ lev, (T lev).length ≤ n) := by rw [hT]; exact HLe0
  have HCa : Hid (∀ lev j, j < (T lev).length → (T lev).getD j 0 < n ∧ (C lev j).getD ((T lev).getD j 0) 0 = lev ∧ (C lev j).set ((T lev).getD j 0) (lev + 1) = C lev (j + 1)) := by rw [hT]; exact HCa0
  have HCr : Hid (∀ lev j, j + 1 < (T lev).length → (T lev).getD j 0 < (T lev).getD (j + 1) 0) := by rw [hT]; exact HCr0
  have HCe : Hid (∀ lev, C lev (T lev).length = C (lev + 1) 0) := by rw [hT]; exact HCe0
  clear hT HU0 HTop0 HLe0 HCa0 HCr0 HCe0
  generalize k0.take a = k at *
  generalize L0.take n = L at *
  go_enter Tryd.func5, Tryd.ntmps5
  go_wp2_with fail
  go_quiet (fail)
  have hb0 : Below w.heap.size w (w.drewN nq) := bdn' (Below.refl _ _) _
  generalize w.drewN nq = w0 at hb0 ⊢
  clear hsl hex hz0 h1 h2 h3 h4 hk0 hL0 hc0
  go_wp2_with fail
  refine (HS.out _ hb0).mono ?_
  rintro e w1 ⟨gh, rfl, hgh, hb1⟩
  have hB1 := bt hb0 hb1
  have HG1 := Lib.hid hgh
  clear hb0 hb1 hgh
  go_wp2_with fail
  refine (HAL.out _ hB1).mono ?_
  rintro e w2 ⟨rfl, hb2⟩
  have hB2 := bt hB1 hb2
  have HG2 := Lib.hid (HG1.out.below hb2)
  clear hB1 hb2 HG1
  have e1 := vmake_ints n hn
  have HB3 : Hid (Below w.heap.size w (w2.alloc (.cells (Array.replicate n (vi 0)) 3))) := Lib.hid (ba hB2 _)
  have HG3 := Lib.hid (HG2.out.alloc (.cells (Array.replicate n (vi 0)) 3))
  have HC3 : Hid (Blk (w2.alloc (.cells (Array.replicate n (vi 0)) 3)) w2.heap.size 3 (((C 0 0).map vi).toArray)) := Lib.hid (by
    have := Blk.new w2 3 (Array.replicate n (vi 0))
    rwa [HCs.out, List.map_replicate, List.toArray_replicate])
  have HGne : Hid (gh < w2.heap.size ∧ w.heap.size ≤ w2.heap.size) := Lib.hid ⟨HG2.out.lt, hB2.size⟩
  clear hB2 HG2
  go_upto_region 6 with fail
  generalize w2.alloc (.cells (Array.replicate n (vi 0)) 3) = w3 at HB3 HG3 HC3 ⊢
  generalize w2.heap.size = G at HC3 HGne ⊢
  clear e1
  go_wp2_with fail
  go_loopw [39] (fun iv wr => ∃ lev : Nat, lev ≤ 9 ∧ iv = .int .i64 (lev : Int) ∧ Hid (Blk wr gh 3 ((T0.map vi).toArray)) ∧ Hid (Blk wr G 3 (((C lev 0).map vi).toArray)) ∧ Hid (Below w.heap.size w wr)) (fun i _ => 9 - (intOf i).toNat)
  case atStart => exact ⟨0, Nat.zero_le _, rfl, HG3, HC3, HB3⟩
  case round =>
    clear HG3 HC3 HB3
    obtain ⟨lev, hlev, rfl, HG, HC, HB⟩ := hrel
    by_cases hl9 : lev < 9
    · have HUl := Lib.hid (HU.out lev wr (by omega) HB.out)
      have HLl := HLe.out lev
      have HCal := Lib.hid (HCa.out lev)
      have HCrl := Lib.hid (HCr.out lev)
      have HCel := Lib.hid (HCe.out lev)
      have HT8 : Hid (lev = 8 → (T lev).length = 0) := Lib.hid (fun e => by rw [e, HTop.out]; rfl)
      generalize T lev = S at *
      go_wp2_with fail
      refine HUl.out.mono ?_
      rintro e w4 ⟨B, d, m, hm, rfl, ho, hb4⟩
      have HB4 := Lib.hid (bt HB.out hb4)
      have HG4 := Lib.hid (HG.out.below hb4)
      have HC4 := Lib.hid (HC.out.below hb4)
      obtain ⟨b, hb⟩ : ∃ b, wr.heap.size = b := ⟨_, rfl⟩
      have hGb := HC.out.lt
      rw [hb] at ho hGb
      have HO4 : Hid (G < b ∧ w4.ownsRow b 3 1 (.slice B m d) m (S.map vi)) := Lib.hid ⟨hGb, ho⟩
      clear hb hGb
      have HM := Lib.hid hm
      rw [← hm] at HLl HCel HT8
      clear hb4 ho hm HB HG HC
      have hm8 : m ≤ 65536 := by omega
      have P : (((lev : Int) == 8) = true ∧ ¬ (0 : Int) < (m : Int)) ∨ ((lev : Int) == 8) = false := by
        by_cases h8 : lev = 8
        · have := HT8.out h8
          exact .inl ⟨by simp; omega, by omega⟩
        · exact .inr (by simp; omega)
      clear HT8
      rcases P with ⟨q1, q2⟩ | q1
      · go_wp2_with fail
        go_loopw [62] (fun iv wi => ∃ j : Nat, j ≤ m ∧ iv = .int .i64 (j : Int) ∧ Hid (Blk wi gh 3 ((T0.map vi).toArray)) ∧ Hid (Blk wi G 3 (((C lev j).map vi).toArray)) ∧ Hid (G < b ∧ wi.ownsRow b 3 1 (.slice B m d) m (S.map vi)) ∧ Hid (Below w.heap.size w wi)) (fun i _ => m - (intOf i).toNat)
        case atStart => exact ⟨0, Nat.zero_le _, rfl, HG4, HC4, HO4, HB4⟩
        case round =>
          clear HG4 HC4 HO4 HB4 HUl q1
          obtain ⟨j, hj, rfl, HG, HC, HO, HB⟩ := hrel
          obtain rfl : j = m := by omega
          rw [HCel.out] at HC
          clear HCal HCrl HO hj HLl hm8 q2
          go_wp2_with fail
          exact ⟨⟨lev + 1, by omega, by go_num, HG, HC, HB⟩, by simp [intOf]; omega⟩
      · go_wp2_with fail
        go_loopw [62] (fun iv wi => ∃ j : Nat, j ≤ m ∧ iv = .int .i64 (j : Int) ∧ Hid (Blk wi gh 3 ((T0.map vi).toArray)) ∧ Hid (Blk wi G 3 (((C lev j).map vi).toArray)) ∧ Hid (G < b ∧ wi.ownsRow b 3 1 (.slice B m d) m (S.map vi)) ∧ Hid (Below w.heap.size w wi)) (fun i _ => m - (intOf i).toNat)
        case atStart => exact ⟨0, Nat.zero_le _, rfl, HG4, HC4, HO4, HB4⟩
        case round =>
          clear HG4 HC4 HO4 HB4 HUl q1
          obtain ⟨j, hj, rfl, HG, HC, HO, HB⟩ := hrel
          by_cases hlt : j < m
          · obtain ⟨g, off, rfl, c0⟩ := own_VR HO.out.2 HM.out.symm j (by rw [← HM.out]; exact hlt)
            obtain ⟨x0, x1, x2⟩ := HCal.out j (by rw [← HM.out]; exact hlt)
            have HPR : Hid (0 < j → ∃ p y : Nat, (j : Int) - 1 = (p : Int) ∧ p < m ∧ wr.cell? ⟨g, off + p, none⟩ = some (vi y) ∧ (y : Int) < ((S.getD j 0 : Nat) : Int)) := Lib.hid (fun hp => by
              obtain ⟨p, rfl⟩ : ∃ p, j = p + 1 := ⟨j - 1, by omega⟩
              obtain ⟨g2, off2, e2, c2⟩ := own_VR HO.out.2 HM.out.symm p (by rw [← HM.out]; omega)
              injection e2 with e2
              injection e2 with e3 e4 _
              subst e3 e4
              have := HCrl.out p (by rw [← HM.out]; exact hlt)
              exact ⟨p, _, by omega, by omega, c2, by omega⟩)
            generalize S.getD j 0 = x at *
            obtain ⟨d0, d1⟩ := vblk_cell vi HC.out (by rw [HCl.out]; exact x0) x1
            have HC5 : Hid (Blk (wr.setCell ⟨G, x, none⟩ (.int .i64 ((lev : Int) + 1))) G 3 (((C lev (j + 1)).map vi).toArray)) := Lib.hid (vblk_set vi HC.out x2)
            have HG5 : Hid (Blk (wr.setCell ⟨G, x, none⟩ (.int .i64 ((lev : Int) + 1))) gh 3 ((T0.map vi).toArray)) := Lib.hid (HG.out.far (by have := HGne.out.1; show gh ≠ G; omega) _)
            have HO5 : Hid (G < b ∧ (wr.setCell ⟨G, x, none⟩ (.int .i64 ((lev : Int) + 1))).ownsRow b 3 1 (.slice (some ⟨g, off, none⟩) m d) m (S.map vi)) := Lib.hid ⟨HO.out.1, vown_far HO.out.2 HO.out.1⟩
            have HB5 : Hid (Below w.heap.size w (wr.setCell ⟨G, x, none⟩ (.int .i64 ((lev : Int) + 1)))) := Lib.hid (bs HB.out HGne.out.2 _)
            have i0 : (0 : Int) ≤ (x : Int) := by omega
            have i1 : (x : Int) < (n : Int) := by omega
            have i2 : (0 : Int) ≤ (j : Int) := by omega
            have i3 : (j : Int) < (m : Int) := by omega
            clear x0 x1 x2 HC HG HO HB
            by_cases hj0 : 0 < j
            · obtain ⟨p, y, hp, hpm, c2, hy⟩ := HPR.out hj0
              have i4 : (0 : Int) ≤ (p : Int) := by omega
              have i5 : (p : Int) < (m : Int) := by omega
              have i6 : (0 : Int) < (j : Int) := by omega
              clear hpm hj0
              go_wp2_with fail
              exact ⟨⟨j + 1, by omega, by go_num, HG5, HC5, HO5, HB5⟩, by simp [intOf]; omega⟩
            · have i6 : ¬ (0 : Int) < (j : Int) := by omega
              clear hj0
              go_wp2_with fail
              exact ⟨⟨j + 1, by omega, by go_num, HG5, HC5, HO5, HB5⟩, by simp [intOf]; omega⟩
          · obtain rfl : j = m := by omega
            rw [HCel.out] at HC
            clear HCal HCrl HO hlt hj HLl hm8
            go_wp2_with fail
            exact ⟨⟨lev + 1, by omega, by go_num, HG, HC, HB⟩, by simp [intOf]; omega⟩
    · have e9 : lev = 9 := by omega
      rw [e9] at HC
      have i9 : ¬ (lev : Int) < 9 := by omega
      have hlev9 : (lev : Int) ≤ 9 := by omega
      clear e9 HCa HCr HCe HU HTop HLe hl9 hlev
      go_wp2_with fail
      go_loopw [106] (fun iv wi => ∃ j : Nat, j ≤ n ∧ iv = .int .i64 (j : Int) ∧ Hid (Blk wi gh 3 ((T0.map vi).toArray)) ∧ Hid (Blk wi G 3 (((C 9 0).map vi).toArray)) ∧ Hid (Below w.heap.size w wi)) (fun i _ => n - (intOf i).toNat)
      case atStart => exact ⟨0, Nat.zero_le _, rfl, HG, HC, HB⟩
      case round =>
        clear HG HC HB
        obtain ⟨j, hj, rfl, HG, HC, HB⟩ := hrel
        by_cases hlt : j < n
        · obtain ⟨g, off, rfl, c0⟩ := HR.out j wr hlt HB.out
          obtain ⟨d0, d1⟩ := vblk_cell vi HC.out (by rw [HCl.out]; exact hlt) (HCd.out j hlt)
          obtain ⟨e0, e1⟩ := vblk_cell vi HG.out (by rw [HSl.out]; exact hlt) (HSa.out j hlt)
          have HHj := Lib.hid (fun W (h : Below w.heap.size w W) => HH.out j W hlt h)
          obtain ⟨h1, h2⟩ := HHl.out j
          generalize H j = h at *
          generalize L.getD j 0 = y at c0 HHj
          have i0 : (0 : Int) ≤ (j : Int) := by omega
          have i1 : (j : Int) < (n : Int) := by omega
          have i2 : (1 : Int) ≤ (h : Int) := by omega
          have i3 : (h : Int) ≤ 8 := by omega
          clear h1 h2
          go_wp2_with fail
          refine (HHj.out _ HB.out).mono ?_
          rintro e w6 ⟨rfl, hb6⟩
          have HG6 := Lib.hid (HG.out.below hb6)
          have HC6 := Lib.hid (HC.out.below hb6)
          have HB6 := Lib.hid (bt HB.out hb6)
          clear hb6 HG HC HB c0 d0 d1 e0 e1
          go_wp2_with fail
          exact ⟨⟨j + 1, by omega, by go_num, HG6, HC6, HB6⟩, by simp [intOf]; omega⟩
        · obtain rfl : j = n := by omega
          go_wp2
          go_ret
          exact ⟨rfl, HB.out⟩
end Go.Proofs.YtcakhepiceilkaaDoor
