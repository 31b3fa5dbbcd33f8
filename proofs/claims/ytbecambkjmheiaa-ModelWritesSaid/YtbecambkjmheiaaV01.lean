/- What ModelWrites wants beside. -/
import Derived.Test.YtbecambkjmheiaaQ01
import Derived.Test.YtbecambkjmheiaaQ02
import Derived.Test.YtbecambkjmheiaaQ03
import Derived.Test.YtbecambkjmheiaaQ04
import Derived.Test.YtbecambkjmheiaaQ05
import Derived.Test.YtbecambkjmheiaaQ06
import Derived.Test.YtbecambkjmheiaaQ07
import Derived.Test.YtbecambkjmheiaaQ08
import Derived.Test.YtbecambkjmheiaaQ09
import Derived.Test.YtbecambkjmheiaaQ10
import Derived.Test.YtbecambkjmheiaaQ11
import Derived.Test.YtbecambkjmheiaaQ12
import Derived.Test.YtbecambkjmheiaaQ13
import Derived.Test.YtbecambkjmheiaaQ14
import Derived.Test.YtbecambkjmheiaaQ15
import Derived.Test.YtbecambkjmheiaaQ16
import Derived.Test.YtbecambkjmheiaaQ17
import Derived.Test.YtbecambkjmheiaaQ18
import Derived.Test.YtbecambkjmheiaaQ19
import Derived.Test.YtbecambkjmheiaaQ20
import Derived.Test.YtbecambkjmheiaaQ21
import Derived.Test.YtbecambkjmheiaaQ22
import Derived.Test.YtbecambkjmheiaaQ23
import Derived.Test.YtbecambkjmheiaaQ24
import Derived.Carry
/- What the stage's theorem says of plain lists. -/
namespace Go.Proofs.Ytbecambkjmheiaa
open Go.RowKit

theorem nmap_zero (n : Nat) : ((List.range n).map fun _ => (0 : UInt8)) = List.replicate n 0 := by
  apply List.ext_getElem
  · simp
  · intro i h1 h2; simp
theorem nmap_get (D : List UInt8) : ((List.range D.length).map fun i => D.getD i 0) = D := by
  apply List.ext_getElem
  · simp
  · intro i h1 h2
    have : i < D.length := h2
    simp [List.getD, this]
/-- What a change leaves that is told to be one. -/
def NGood (L N : List CL) (f len : Nat) (T : List UInt8) : Prop := CRt N ∧ N.length ≤ 65536 ∧ cread N f len = T ∧ ∀ m, ¬ (f ≤ m ∧ m < f + len) → cByte N m = cByte L m
theorem ngood_of {L : List CL} {f len w : Nat} {g : Nat → UInt8} (h : cWhy L f len = 0) (hl : (cNow L f len (cF w g f len)).length ≤ 64) :
    NGood L (cNow L f len (cF w g f len)) f len (if w = 4 then cread L f len else (List.range len).map fun i => if w = 1 then g i else 0) := by
  obtain ⟨h1, h2, h3, h4⟩ := cWhy_ok.1 h
  rw [cNow_yes h] at hl ⊢
  refine ⟨?_, by omega, ?_, fun m hm => ?_⟩
  · refine cdo_rt h1 (cF_n _ _ _ _) ?_ (fun c hc hi => cF_ok c hc hi) hl
    unfold mK; omega
  · exact cread_do h1 h2
  · have := cbyte_do (w := w) (g := g) (f := f) (len := len) h1 h2 m
    rw [if_neg (fun hh => hm hh.2)] at this
    exact this
theorem ngood_d {L : List CL} {f len : Nat} (h : cWhy L f len = 0) : NGood L (cNow L f len (FD f len)) f len (List.replicate len 0) ∧ (cNow L f len (FD f len)).length ≤ L.length := by
  obtain ⟨h1, h2, h3, h4⟩ := cWhy_ok.1 h
  have hl : (cNow L f len (FD f len)).length ≤ L.length := by rw [cNow_yes h]; exact cdo_len (cup_cs h1.2.2) (cF_n _ _ _ _) (cF_hole _ _ _ (.inl rfl))
  have h5 := h1.1
  have := ngood_of (w := 2) (g := fun _ => 0) h (Nat.le_trans hl h5)
  rw [if_neg (by omega)] at this
  simp only [show ¬ ((2 : Nat) = 1) by omega, if_false, nmap_zero] at this
  exact ⟨this, hl⟩
theorem ngood_z {L : List CL} {f len : Nat} (h : cWhy L f len = 0) : NGood L (cNow L f len (FZ f len)) f len (List.replicate len 0) ∧ (cNow L f len (FZ f len)).length ≤ L.length := by
  obtain ⟨h1, h2, h3, h4⟩ := cWhy_ok.1 h
  have hl : (cNow L f len (FZ f len)).length ≤ L.length := by rw [cNow_yes h]; exact cdo_len (cup_cs h1.2.2) (cF_n _ _ _ _) (cF_hole _ _ _ (.inr rfl))
  have h5 := h1.1
  have := ngood_of (w := 3) (g := fun _ => 0) h (Nat.le_trans hl h5)
  rw [if_neg (by omega)] at this
  simp only [show ¬ ((3 : Nat) = 1) by omega, if_false, nmap_zero] at this
  exact ⟨this, hl⟩
theorem nfit_len {q : Int} {L : List CL} {f len : Nat} {F : CL → CL} (h : cWhy L f len = 0) (he : cwE q L f len F = 0) : cwN q L f len F = cNow L f len F ∧ (cNow L f len F).length ≤ 64 := by
  refine ⟨by rw [cwN, if_pos he], ?_⟩
  rw [cwE, if_neg (fun h' => h' h)] at he
  split at he
  · rename_i hf
    have := (cWhy_ok.1 h).1.1
    rcases hf with hf | hf
    · omega
    · exact hf.2
  · cases he
theorem ngood_w {q : Int} {L : List CL} {f : Nat} {D : List UInt8} (h : cWhy L f D.length = 0) (he : cwE q L f D.length (FW D f) = 0) : NGood L (cwN q L f D.length (FW D f)) f D.length D := by
  obtain ⟨e, hl⟩ := nfit_len h he
  rw [e]
  have := ngood_of (w := 1) (g := fun j => D.getD j 0) h hl
  rw [if_neg (by omega)] at this
  simp only [if_true, nmap_get] at this
  exact this
theorem ngood_r {q : Int} {L : List CL} {f len : Nat} (h : cWhy L f len = 0) (he : cwE q L f len (FR f len) = 0) : NGood L (cwN q L f len (FR f len)) f len (cread L f len) := by
  obtain ⟨e, hl⟩ := nfit_len h he
  rw [e]
  have := ngood_of (w := 4) (g := fun _ => 0) h hl
  rw [if_pos rfl] at this
  exact this
theorem nsame_good {A A2 : Option Addr} {n c n2 c2 f len m : Nat} {N L : List CL} {T : List UInt8} {w : World} (hA : CR w A N) (hl : N.length = n) (hA2 : CR w A2 L) (hl2 : L.length = n2) (hG : NGood L N f len T) (hW : cWhy L f len = 0) (hm : m < 18446744073709551616) :
    Calls Try.prog 16 #[.slice A n c, .agg #[vu f, vu len], sv T, .slice A2 n2 c2, vu m] w fun e w' => e = .returned (.bool true) ∧ Below w.heap.size w w' := by
  obtain ⟨g1, g2, g3, g4⟩ := hG
  obtain ⟨h1, h2, h3, h4⟩ := cWhy_ok.1 hW
  exact nsame_yes A A2 n c n2 c2 f len m N L T w hA hl (by omega) hA2 hl2 g1 h1 h2 h3 h4 hm g3 (g4 m)
end Go.Proofs.Ytbecambkjmheiaa
/- The law ModelWrites: its body, for whatever cells, data and span. -/
namespace Go.Proofs.Ytbecambkjmheiaa
open Go.RowKit

theorem cG_one (D : List UInt8) : cG 1 D = fun j => D.getD j 0 := by
  funext j; unfold cG; rw [if_pos rfl]

set_option maxRecDepth 100000 in
set_option maxHeartbeats 2000000 in
theorem nwrites_holds (A : Option Addr) (n c f f4 n4 : Nat) (q : Int) (L0 : List CL) (data : List UInt8) (w : World) (hA : CR w A L0) (hl : L0.length = n) (hc : n ≤ c) (hf : f < 18446744073709551616) (hf4 : f4 < 18446744073709551616) (hn4 : n4 < 18446744073709551616) :
    Calls Try.prog 3 #[.slice A n c, .int .i64 q, vu f, sv data, .agg #[vu f4, vu n4]] w fun e w' => e = .returned (.bool true) ∧ Below w.heap.size w w' := by
  have HFew := Lib.hid (fun W (hb : Below w.heap.size w W) => nfew_any A n c L0 W (hA.later hb) hl hc)
  have HAl := Lib.hid (fun W => nalive_any W)
  have HLL := Lib.hid (cFew_len L0)
  obtain ⟨D, hD⟩ : ∃ D, data.take 230 = D := ⟨_, rfl⟩
  have hDl : D.length ≤ 230 := by rw [← hD]; simp; omega
  obtain ⟨k, hk⟩ : ∃ k, min data.length 230 = k := ⟨_, rfl⟩
  have hmin : min ((data.length : Nat) : Int) 230 = (k : Int) := by omega
  have hkl : k ≤ data.length := by omega
  have hki : (k : Int) ≤ ((data.length : Nat) : Int) := by omega
  have hsz := size_of data
  have hx : (⟨data.toArray⟩ : ByteArray).extract 0 k = ⟨D.toArray⟩ := by
    rw [nextract, List.drop_zero, ← hk, ← hD]
    congr 2
    rcases Nat.le_total data.length 230 with h | h
    · rw [Nat.min_eq_left h, List.take_length, List.take_of_length_le h]
    · rw [Nat.min_eq_right h]
  have hszD := size_of D
  clear hD hk hA hl hc
  generalize cFew L0 = L at *
  have hw : IntKind.u64.wrap ((D.length : Nat) : Int) = ((D.length : Nat) : Int) := IntWalk.u64_in _ ⟨by omega, by omega⟩
  have HWr : Hid (∀ W B d, CR W B L → (B = none → d = 0) → Calls Try.prog 7 #[.slice B L.length d, .int .i64 q, vu f, sv D] W fun e w' => ∃ B2 d2, e = .returned (.tuple #[.slice B2 (cwN q L f D.length (FW D f)).length d2, .int .i64 (cwE q L f D.length (FW D f))]) ∧ CR w' B2 (cwN q L f D.length (FW D f)) ∧ Below W.heap.size W w') := Lib.hid fun W B d hr h0 => by
    refine (nwrite_any B L.length d f q L D W hr rfl h0 (by have := HLL.out; omega) hf (by omega)).mono ?_
    rintro e w' ⟨B2, d2, rfl, _, _, k3, k4⟩
    exact ⟨B2, d2, rfl, k3, k4⟩
  have HRs : Hid (∀ W B d, CR W B L → (B = none → d = 0) → Calls Try.prog 8 #[.slice B L.length d, .int .i64 q, .agg #[vu f4, vu n4]] W fun e w' => ∃ B2 d2, e = .returned (.tuple #[.slice B2 (cwN q L f4 n4 (FR f4 n4)).length d2, .int .i64 (cwE q L f4 n4 (FR f4 n4))]) ∧ CR w' B2 (cwN q L f4 n4 (FR f4 n4)) ∧ Below W.heap.size W w') := Lib.hid fun W B d hr h0 => by
    refine (nreserve_any B L.length d f4 n4 q L W hr rfl h0 (by have := HLL.out; omega) hf4 hn4).mono ?_
    rintro e w' ⟨B2, d2, rfl, _, _, k3, k4⟩
    exact ⟨B2, d2, rfl, k3, k4⟩
  have hF1 : cF 1 (cG (1 : Nat) D) f D.length = FW D f := by
    rw [show ((1 : Nat) : Int) = 1 from rfl, cG_one]
  have hF4 : cF 4 (cG (4 : Nat) []) f4 n4 = FR f4 n4 := by rw [cG_zero (by decide)]
  have hlN : ∀ {f1 l1 : Nat} {F : CL → CL}, (∀ c, (F c).n = c.n) → (cwN q L f1 l1 F).length ≤ 65536 := fun {f1 l1 F} hF => by
    unfold cwN
    split
    · have := cNow_len (L := L) (f := f1) (len := l1) (F := F) hF; omega
    · simp
  have HTW : Hid (∀ W B d B2 d2, CR W B L → CR W B2 (cwN q L f D.length (FW D f)) → Calls Try.prog 10 #[.slice B L.length d, .slice B2 (cwN q L f D.length (FW D f)).length d2, .int .i64 (cwE q L f D.length (FW D f)), .int .i64 q, .agg #[.int .i64 1, vu f, vu D.length, sv D]] W fun e w' => e = .returned (.bool true) ∧ Below W.heap.size W w') := Lib.hid fun W B d B2 d2 hr hr2 =>
    ntold_any B B2 L.length d (cwN q L f D.length (FW D f)).length d2 f D.length 1 q (cwE q L f D.length (FW D f)) D L _ W hr rfl (by have := HLL.out; omega) hr2 rfl (hlN (cF_n _ _ _ _)) hf (by omega) (by omega) (fun _ => rfl) (by rw [hF1]) (by rw [hF1])
  have HTR : Hid (∀ W B d B2 d2, CR W B L → CR W B2 (cwN q L f4 n4 (FR f4 n4)) → Calls Try.prog 10 #[.slice B L.length d, .slice B2 (cwN q L f4 n4 (FR f4 n4)).length d2, .int .i64 (cwE q L f4 n4 (FR f4 n4)), .int .i64 q, .agg #[.int .i64 4, vu f4, vu n4, .string ⟨#[]⟩]] W fun e w' => e = .returned (.bool true) ∧ Below W.heap.size W w') := Lib.hid fun W B d B2 d2 hr hr2 =>
    ntold_any B B2 L.length d (cwN q L f4 n4 (FR f4 n4)).length d2 f4 n4 4 q (cwE q L f4 n4 (FR f4 n4)) [] L _ W hr rfl (by have := HLL.out; omega) hr2 rfl (hlN (cF_n _ _ _ _)) hf4 hn4 (by omega) (fun h => absurd h (by decide)) (by rw [hF4]) (by rw [hF4])
  clear hF1 hF4 hf hf4 hn4 hlN
  generalize cwN q L f D.length (FW D f) = NW at *
  generalize cwN q L f4 n4 (FR f4 n4) = NR at *
  generalize cwE q L f D.length (FW D f) = EW at *
  generalize cwE q L f4 n4 (FR f4 n4) = ER at *
  go_enter Try.func3, Try.ntmps3
  go_wp2
  refine wp_region_held_drew (S := fun W => Below w.heap.size w W ∧ Blk W w.heap.size 25 #[vu f4, vu n4]) (by kernel_rfl) ⟨(ba (Below.refl _ _) _).drew, (Blk.new w _ _).drew⟩ (fun hHeld => ?_)
  refine wpAnyH_take (i := 0) (oi := ⟨some 16, _, _, _, _, _⟩) (v := ?_) rfl (by kernel_rfl) (by kernel_rfl) (by kernel_rfl) (fun _ _ _ h => h) (Or.inl ⟨by rfl, ?_⟩) (by assumption) ?_
  rotate_left
  · (intro w9 hSw; (try dsimp only at hSw); go_simp; try with_reducible rfl)
  try simp only [Act.put, List.setIfInBounds_toArray, List.set_cons_zero, List.set_cons_succ]
  refine wpAnyH_take (i := 2) (oi := ⟨some 18, _, _, _, _, _⟩) (v := ?_) rfl (by kernel_rfl) (by kernel_rfl) (by kernel_rfl) (fun _ _ _ h => h) (Or.inl ⟨by rfl, ?_⟩) (by assumption) ?_
  rotate_left
  · (intro w9 hSw; (try dsimp only at hSw); go_simp; try with_reducible rfl)
  try simp only [Act.put, List.setIfInBounds_toArray, List.set_cons_zero, List.set_cons_succ]
  refine wpAnyH_take (i := 3) (oi := ⟨some 19, _, _, _, _, _⟩) (v := ?_) rfl (by kernel_rfl) (by kernel_rfl) (by kernel_rfl) (fun _ _ _ h => h) (Or.inl ⟨by rfl, ?_⟩) (by assumption) ?_
  rotate_left
  · (intro w9 hSw; (try dsimp only at hSw); go_simp; try with_reducible rfl)
  try simp only [Act.put, List.setIfInBounds_toArray, List.set_cons_zero, List.set_cons_succ]
  refine wpAnyH_take (i := 4) (oi := ⟨some 20, _, _, _, _, _⟩) (v := ?_) rfl (by kernel_rfl) (by kernel_rfl) (by kernel_rfl) (fun _ _ _ h => h) (Or.inl ⟨by rfl, ?_⟩) (by assumption) ?_
  rotate_left
  · (intro w9 hSw; (try dsimp only at hSw); go_simp; try with_reducible rfl)
  try simp only [Act.put, List.setIfInBounds_toArray, List.set_cons_zero, List.set_cons_succ]
  refine wpAnyH_take (i := 5) (oi := ⟨some 21, _, _, _, _, _⟩) (v := ?_) rfl (by kernel_rfl) (by kernel_rfl) (by kernel_rfl) (fun _ _ _ h => h) (Or.inl ⟨by rfl, ?_⟩) (by assumption) ?_
  rotate_left
  · (intro w9 hSw; (try dsimp only at hSw); go_simp; try with_reducible rfl)
  try simp only [Act.put, List.setIfInBounds_toArray, List.set_cons_zero, List.set_cons_succ]
  refine wpAnyH_take (i := 6) (oi := ⟨some 22, _, _, _, _, _⟩) (v := ?_) rfl (by kernel_rfl) (by kernel_rfl) (by kernel_rfl) (fun _ _ _ h => h) (Or.inl ⟨by rfl, ?_⟩) (by assumption) ?_
  rotate_left
  · (intro w9 hSw; (try dsimp only at hSw); go_simp; try with_reducible rfl)
  try simp only [Act.put, List.setIfInBounds_toArray, List.set_cons_zero, List.set_cons_succ]
  refine wpAnyH_ready (rs := [1]) (by kernel_rfl) (by simp) ?_
  refine AllReadyH.cons (o := ⟨some 17, _, _, _, _, _⟩) rfl (fun K9 hK9 => ?_) AllReadyH.nil
  go_simp; go_at_call 6
  refine (HFew.out _ (ba (Below.refl _ _) _).drew).mono ?_
  rintro e w1 ⟨B, d, rfl, k1, k2, k3, k4⟩
  have hb1 : Below w.heap.size w w1 := bt (ba (Below.refl _ _) _).drew k4
  have hs1 : Blk w1 w.heap.size 25 #[vu f4, vu n4] := ((Blk.new w _ _).drew).below k4
  refine hK9.out _ _ ?_ (fun hHeld => ?_)
  · exact ⟨hb1, hs1⟩
  clear hK9 K9
  try simp only [Act.put, List.setIfInBounds_toArray, List.set_cons_zero, List.set_cons_succ]
  refine wpAnyH_take (i := 7) (oi := ⟨some 0, _, _, _, _, _⟩) (v := ?_) rfl (by kernel_rfl) (by kernel_rfl) (by kernel_rfl) (fun _ _ _ h => h) (Or.inl ⟨by rfl, ?_⟩) (by assumption) ?_
  rotate_left
  · (intro w9 hSw; (try dsimp only at hSw); go_simp; try with_reducible rfl)
  try simp only [Act.put, List.setIfInBounds_toArray, List.set_cons_zero]
  refine wpAnyH_take (i := 8) (oi := ⟨some 3, _, _, _, _, _⟩) (v := ?_) rfl (by kernel_rfl) (by kernel_rfl) (by kernel_rfl) (fun _ _ _ h => h) (Or.inl ⟨by rfl, ?_⟩) (by assumption) ?_
  rotate_left
  · (intro w9 hSw; (try dsimp only at hSw); go_simp; try with_reducible rfl)
  try simp only [Act.put, List.setIfInBounds_toArray, List.set_cons_zero, List.set_cons_succ]
  refine wpAnyH_done (by kernel_rfl) ?_ _
  have HB1 := Lib.hid hb1
  have S1 := Lib.hid hs1
  have R1 := Lib.hid k3
  have HN0 := Lib.hid k2
  clear hb1 k4 k3 k2 k1 hs1 HFew hx hmin hkl hki hsz
  go_wp2_with fail
  refine (HWr.out _ _ _ R1.out HN0.out).mono ?_
  rintro e w2 ⟨B1, d1, rfl, hr1, hb2⟩
  have S2 := Lib.hid (S1.out.below hb2)
  have HB2 := Lib.hid (bt HB1.out hb2)
  have R2 := Lib.hid (R1.out.later hb2)
  have D2 := Lib.hid hr1
  clear hb2 hr1
  obtain ⟨q20, r20⟩ := S2.out.at_ (i := 0) (v := vu f4) rfl
  obtain ⟨q21, r21⟩ := S2.out.at_ (i := 1) (v := vu n4) rfl
  go_wp2_with fail
  refine (HRs.out _ _ _ R2.out HN0.out).mono ?_
  rintro e w3 ⟨B2, d2, rfl, hr2, hb3⟩
  have S3 := Lib.hid (S2.out.below hb3)
  have HB3 := Lib.hid (bt HB2.out hb3)
  have R3 := Lib.hid (R2.out.later hb3)
  have D3 := Lib.hid (D2.out.later hb3)
  have Z3 := Lib.hid hr2
  have hl3 := S3.out.lt
  clear hb3 hr2
  go_wp2_with fail
  refine (HAl.out _).mono ?_
  rintro e w4 ⟨rfl, hb4⟩
  have P4 : Hid (Blk w4 w3.heap.size 25 #[vu f, vu D.length]) := Lib.hid ((Blk.new w3 _ _).below hb4)
  have hb34 : Below w3.heap.size w3 w4 := bt (ba (Below.refl _ _) _) hb4
  have S4 := Lib.hid (S3.out.below hb34)
  have HB4 := Lib.hid (bt HB3.out hb34)
  have R4 := Lib.hid (R3.out.later hb34)
  have D4 := Lib.hid (D3.out.later hb34)
  have Z4 := Lib.hid (Z3.out.later hb34)
  clear hb4 hb34
  obtain ⟨q40, r40⟩ := P4.out.at_ (i := 0) (v := vu f) rfl
  obtain ⟨q41, r41⟩ := P4.out.at_ (i := 1) (v := vu D.length) rfl
  go_wp2_with fail
  refine (HTW.out _ _ _ _ _ R4.out D4.out).mono ?_
  rintro e w5 ⟨rfl, hb5⟩
  have S5 := Lib.hid (S4.out.below hb5)
  have HB5 := Lib.hid (bt HB4.out hb5)
  have R5 := Lib.hid (R4.out.later hb5)
  have Z5 := Lib.hid (Z4.out.later hb5)
  clear hb5
  obtain ⟨q50, r50⟩ := S5.out.at_ (i := 0) (v := vu f4) rfl
  obtain ⟨q51, r51⟩ := S5.out.at_ (i := 1) (v := vu n4) rfl
  go_wp2_with fail
  refine (HTR.out _ _ _ _ _ R5.out Z5.out).mono ?_
  rintro e w6 ⟨rfl, hb6⟩
  have HB6 := Lib.hid (bt HB5.out hb6)
  clear hb6
  go_wp2
  go_ret
  exact ⟨rfl, HB6.out⟩
end Go.Proofs.Ytbecambkjmheiaa
/- Five to ten parameters, parted. Nothing of any function. -/
namespace Go.Proofs.Ytbecambkjmheiaa
open Go.ChangeShapes
section
variable {H : Type} {enc : TypeId × Value → H} {P : Program} {w : World} {base : Nat} {spare : Nat → Bool} {held : Bool}
theorem trodAll_five {t0 t1 t2 t3 t4 : TypeId} {args : Array Value} {ds : List (DataW H)} {ps : List MemPlace} (h : DataW.TrodAll enc P w base spare held [t0, t1, t2, t3, t4] args.toList ds ps) :
    ∃ v0 v1 v2 v3 v4 d0 d1 d2 d3 d4 p0 p1 p2 p3 p4, args = #[v0, v1, v2, v3, v4] ∧ ds = [d0, d1, d2, d3, d4] ∧ ps = p0 ++ p1 ++ p2 ++ p3 ++ p4 ∧ DataW.Trod enc P w base spare held t0 v0 d0 p0 ∧ DataW.Trod enc P w base spare held t1 v1 d1 p1 ∧ DataW.Trod enc P w base spare held t2 v2 d2 p2 ∧ DataW.Trod enc P w base spare held t3 v3 d3 p3 ∧ DataW.Trod enc P w base spare held t4 v4 d4 p4 := by
  obtain ⟨v0, vs0, d0, ds0, p0, q0, hargs, rfl, rfl, hd0, hr0⟩ := trodAll_cons h
  obtain ⟨v1, vs1, d1, ds1, p1, q1, rfl, rfl, rfl, hd1, hr1⟩ := trodAll_cons hr0
  obtain ⟨v2, vs2, d2, ds2, p2, q2, rfl, rfl, rfl, hd2, hr2⟩ := trodAll_cons hr1
  obtain ⟨v3, vs3, d3, ds3, p3, q3, rfl, rfl, rfl, hd3, hr3⟩ := trodAll_cons hr2
  obtain ⟨v4, vs4, d4, ds4, p4, q4, rfl, rfl, rfl, hd4, hr4⟩ := trodAll_cons hr3
  obtain ⟨rfl, rfl, rfl⟩ := trodAll_nil hr4
  exact ⟨v0, v1, v2, v3, v4, d0, d1, d2, d3, d4, p0, p1, p2, p3, p4, by cases args; simp_all, rfl, by simp, hd0, hd1, hd2, hd3, hd4⟩
theorem trodAll_six {t0 t1 t2 t3 t4 t5 : TypeId} {args : Array Value} {ds : List (DataW H)} {ps : List MemPlace} (h : DataW.TrodAll enc P w base spare held [t0, t1, t2, t3, t4, t5] args.toList ds ps) :
    ∃ v0 v1 v2 v3 v4 v5 d0 d1 d2 d3 d4 d5 p0 p1 p2 p3 p4 p5, args = #[v0, v1, v2, v3, v4, v5] ∧ ds = [d0, d1, d2, d3, d4, d5] ∧ ps = p0 ++ p1 ++ p2 ++ p3 ++ p4 ++ p5 ∧ DataW.Trod enc P w base spare held t0 v0 d0 p0 ∧ DataW.Trod enc P w base spare held t1 v1 d1 p1 ∧ DataW.Trod enc P w base spare held t2 v2 d2 p2 ∧ DataW.Trod enc P w base spare held t3 v3 d3 p3 ∧ DataW.Trod enc P w base spare held t4 v4 d4 p4 ∧ DataW.Trod enc P w base spare held t5 v5 d5 p5 := by
  obtain ⟨v0, vs0, d0, ds0, p0, q0, hargs, rfl, rfl, hd0, hr0⟩ := trodAll_cons h
  obtain ⟨v1, vs1, d1, ds1, p1, q1, rfl, rfl, rfl, hd1, hr1⟩ := trodAll_cons hr0
  obtain ⟨v2, vs2, d2, ds2, p2, q2, rfl, rfl, rfl, hd2, hr2⟩ := trodAll_cons hr1
  obtain ⟨v3, vs3, d3, ds3, p3, q3, rfl, rfl, rfl, hd3, hr3⟩ := trodAll_cons hr2
  obtain ⟨v4, vs4, d4, ds4, p4, q4, rfl, rfl, rfl, hd4, hr4⟩ := trodAll_cons hr3
  obtain ⟨v5, vs5, d5, ds5, p5, q5, rfl, rfl, rfl, hd5, hr5⟩ := trodAll_cons hr4
  obtain ⟨rfl, rfl, rfl⟩ := trodAll_nil hr5
  exact ⟨v0, v1, v2, v3, v4, v5, d0, d1, d2, d3, d4, d5, p0, p1, p2, p3, p4, p5, by cases args; simp_all, rfl, by simp, hd0, hd1, hd2, hd3, hd4, hd5⟩
theorem trodAll_seven {t0 t1 t2 t3 t4 t5 t6 : TypeId} {args : Array Value} {ds : List (DataW H)} {ps : List MemPlace} (h : DataW.TrodAll enc P w base spare held [t0, t1, t2, t3, t4, t5, t6] args.toList ds ps) :
    ∃ v0 v1 v2 v3 v4 v5 v6 d0 d1 d2 d3 d4 d5 d6 p0 p1 p2 p3 p4 p5 p6, args = #[v0, v1, v2, v3, v4, v5, v6] ∧ ds = [d0, d1, d2, d3, d4, d5, d6] ∧ ps = p0 ++ p1 ++ p2 ++ p3 ++ p4 ++ p5 ++ p6 ∧ DataW.Trod enc P w base spare held t0 v0 d0 p0 ∧ DataW.Trod enc P w base spare held t1 v1 d1 p1 ∧ DataW.Trod enc P w base spare held t2 v2 d2 p2 ∧ DataW.Trod enc P w base spare held t3 v3 d3 p3 ∧ DataW.Trod enc P w base spare held t4 v4 d4 p4 ∧ DataW.Trod enc P w base spare held t5 v5 d5 p5 ∧ DataW.Trod enc P w base spare held t6 v6 d6 p6 := by
  obtain ⟨v0, vs0, d0, ds0, p0, q0, hargs, rfl, rfl, hd0, hr0⟩ := trodAll_cons h
  obtain ⟨v1, vs1, d1, ds1, p1, q1, rfl, rfl, rfl, hd1, hr1⟩ := trodAll_cons hr0
  obtain ⟨v2, vs2, d2, ds2, p2, q2, rfl, rfl, rfl, hd2, hr2⟩ := trodAll_cons hr1
  obtain ⟨v3, vs3, d3, ds3, p3, q3, rfl, rfl, rfl, hd3, hr3⟩ := trodAll_cons hr2
  obtain ⟨v4, vs4, d4, ds4, p4, q4, rfl, rfl, rfl, hd4, hr4⟩ := trodAll_cons hr3
  obtain ⟨v5, vs5, d5, ds5, p5, q5, rfl, rfl, rfl, hd5, hr5⟩ := trodAll_cons hr4
  obtain ⟨v6, vs6, d6, ds6, p6, q6, rfl, rfl, rfl, hd6, hr6⟩ := trodAll_cons hr5
  obtain ⟨rfl, rfl, rfl⟩ := trodAll_nil hr6
  exact ⟨v0, v1, v2, v3, v4, v5, v6, d0, d1, d2, d3, d4, d5, d6, p0, p1, p2, p3, p4, p5, p6, by cases args; simp_all, rfl, by simp, hd0, hd1, hd2, hd3, hd4, hd5, hd6⟩
theorem trodAll_eight {t0 t1 t2 t3 t4 t5 t6 t7 : TypeId} {args : Array Value} {ds : List (DataW H)} {ps : List MemPlace} (h : DataW.TrodAll enc P w base spare held [t0, t1, t2, t3, t4, t5, t6, t7] args.toList ds ps) :
    ∃ v0 v1 v2 v3 v4 v5 v6 v7 d0 d1 d2 d3 d4 d5 d6 d7 p0 p1 p2 p3 p4 p5 p6 p7, args = #[v0, v1, v2, v3, v4, v5, v6, v7] ∧ ds = [d0, d1, d2, d3, d4, d5, d6, d7] ∧ ps = p0 ++ p1 ++ p2 ++ p3 ++ p4 ++ p5 ++ p6 ++ p7 ∧ DataW.Trod enc P w base spare held t0 v0 d0 p0 ∧ DataW.Trod enc P w base spare held t1 v1 d1 p1 ∧ DataW.Trod enc P w base spare held t2 v2 d2 p2 ∧ DataW.Trod enc P w base spare held t3 v3 d3 p3 ∧ DataW.Trod enc P w base spare held t4 v4 d4 p4 ∧ DataW.Trod enc P w base spare held t5 v5 d5 p5 ∧ DataW.Trod enc P w base spare held t6 v6 d6 p6 ∧ DataW.Trod enc P w base spare held t7 v7 d7 p7 := by
  obtain ⟨v0, vs0, d0, ds0, p0, q0, hargs, rfl, rfl, hd0, hr0⟩ := trodAll_cons h
  obtain ⟨v1, vs1, d1, ds1, p1, q1, rfl, rfl, rfl, hd1, hr1⟩ := trodAll_cons hr0
  obtain ⟨v2, vs2, d2, ds2, p2, q2, rfl, rfl, rfl, hd2, hr2⟩ := trodAll_cons hr1
  obtain ⟨v3, vs3, d3, ds3, p3, q3, rfl, rfl, rfl, hd3, hr3⟩ := trodAll_cons hr2
  obtain ⟨v4, vs4, d4, ds4, p4, q4, rfl, rfl, rfl, hd4, hr4⟩ := trodAll_cons hr3
  obtain ⟨v5, vs5, d5, ds5, p5, q5, rfl, rfl, rfl, hd5, hr5⟩ := trodAll_cons hr4
  obtain ⟨v6, vs6, d6, ds6, p6, q6, rfl, rfl, rfl, hd6, hr6⟩ := trodAll_cons hr5
  obtain ⟨v7, vs7, d7, ds7, p7, q7, rfl, rfl, rfl, hd7, hr7⟩ := trodAll_cons hr6
  obtain ⟨rfl, rfl, rfl⟩ := trodAll_nil hr7
  exact ⟨v0, v1, v2, v3, v4, v5, v6, v7, d0, d1, d2, d3, d4, d5, d6, d7, p0, p1, p2, p3, p4, p5, p6, p7, by cases args; simp_all, rfl, by simp, hd0, hd1, hd2, hd3, hd4, hd5, hd6, hd7⟩
theorem trodAll_nine {t0 t1 t2 t3 t4 t5 t6 t7 t8 : TypeId} {args : Array Value} {ds : List (DataW H)} {ps : List MemPlace} (h : DataW.TrodAll enc P w base spare held [t0, t1, t2, t3, t4, t5, t6, t7, t8] args.toList ds ps) :
    ∃ v0 v1 v2 v3 v4 v5 v6 v7 v8 d0 d1 d2 d3 d4 d5 d6 d7 d8 p0 p1 p2 p3 p4 p5 p6 p7 p8, args = #[v0, v1, v2, v3, v4, v5, v6, v7, v8] ∧ ds = [d0, d1, d2, d3, d4, d5, d6, d7, d8] ∧ ps = p0 ++ p1 ++ p2 ++ p3 ++ p4 ++ p5 ++ p6 ++ p7 ++ p8 ∧ DataW.Trod enc P w base spare held t0 v0 d0 p0 ∧ DataW.Trod enc P w base spare held t1 v1 d1 p1 ∧ DataW.Trod enc P w base spare held t2 v2 d2 p2 ∧ DataW.Trod enc P w base spare held t3 v3 d3 p3 ∧ DataW.Trod enc P w base spare held t4 v4 d4 p4 ∧ DataW.Trod enc P w base spare held t5 v5 d5 p5 ∧ DataW.Trod enc P w base spare held t6 v6 d6 p6 ∧ DataW.Trod enc P w base spare held t7 v7 d7 p7 ∧ DataW.Trod enc P w base spare held t8 v8 d8 p8 := by
  obtain ⟨v0, vs0, d0, ds0, p0, q0, hargs, rfl, rfl, hd0, hr0⟩ := trodAll_cons h
  obtain ⟨v1, vs1, d1, ds1, p1, q1, rfl, rfl, rfl, hd1, hr1⟩ := trodAll_cons hr0
  obtain ⟨v2, vs2, d2, ds2, p2, q2, rfl, rfl, rfl, hd2, hr2⟩ := trodAll_cons hr1
  obtain ⟨v3, vs3, d3, ds3, p3, q3, rfl, rfl, rfl, hd3, hr3⟩ := trodAll_cons hr2
  obtain ⟨v4, vs4, d4, ds4, p4, q4, rfl, rfl, rfl, hd4, hr4⟩ := trodAll_cons hr3
  obtain ⟨v5, vs5, d5, ds5, p5, q5, rfl, rfl, rfl, hd5, hr5⟩ := trodAll_cons hr4
  obtain ⟨v6, vs6, d6, ds6, p6, q6, rfl, rfl, rfl, hd6, hr6⟩ := trodAll_cons hr5
  obtain ⟨v7, vs7, d7, ds7, p7, q7, rfl, rfl, rfl, hd7, hr7⟩ := trodAll_cons hr6
  obtain ⟨v8, vs8, d8, ds8, p8, q8, rfl, rfl, rfl, hd8, hr8⟩ := trodAll_cons hr7
  obtain ⟨rfl, rfl, rfl⟩ := trodAll_nil hr8
  exact ⟨v0, v1, v2, v3, v4, v5, v6, v7, v8, d0, d1, d2, d3, d4, d5, d6, d7, d8, p0, p1, p2, p3, p4, p5, p6, p7, p8, by cases args; simp_all, rfl, by simp, hd0, hd1, hd2, hd3, hd4, hd5, hd6, hd7, hd8⟩
theorem trodAll_ten {t0 t1 t2 t3 t4 t5 t6 t7 t8 t9 : TypeId} {args : Array Value} {ds : List (DataW H)} {ps : List MemPlace} (h : DataW.TrodAll enc P w base spare held [t0, t1, t2, t3, t4, t5, t6, t7, t8, t9] args.toList ds ps) :
    ∃ v0 v1 v2 v3 v4 v5 v6 v7 v8 v9 d0 d1 d2 d3 d4 d5 d6 d7 d8 d9 p0 p1 p2 p3 p4 p5 p6 p7 p8 p9, args = #[v0, v1, v2, v3, v4, v5, v6, v7, v8, v9] ∧ ds = [d0, d1, d2, d3, d4, d5, d6, d7, d8, d9] ∧ ps = p0 ++ p1 ++ p2 ++ p3 ++ p4 ++ p5 ++ p6 ++ p7 ++ p8 ++ p9 ∧ DataW.Trod enc P w base spare held t0 v0 d0 p0 ∧ DataW.Trod enc P w base spare held t1 v1 d1 p1 ∧ DataW.Trod enc P w base spare held t2 v2 d2 p2 ∧ DataW.Trod enc P w base spare held t3 v3 d3 p3 ∧ DataW.Trod enc P w base spare held t4 v4 d4 p4 ∧ DataW.Trod enc P w base spare held t5 v5 d5 p5 ∧ DataW.Trod enc P w base spare held t6 v6 d6 p6 ∧ DataW.Trod enc P w base spare held t7 v7 d7 p7 ∧ DataW.Trod enc P w base spare held t8 v8 d8 p8 ∧ DataW.Trod enc P w base spare held t9 v9 d9 p9 := by
  obtain ⟨v0, vs0, d0, ds0, p0, q0, hargs, rfl, rfl, hd0, hr0⟩ := trodAll_cons h
  obtain ⟨v1, vs1, d1, ds1, p1, q1, rfl, rfl, rfl, hd1, hr1⟩ := trodAll_cons hr0
  obtain ⟨v2, vs2, d2, ds2, p2, q2, rfl, rfl, rfl, hd2, hr2⟩ := trodAll_cons hr1
  obtain ⟨v3, vs3, d3, ds3, p3, q3, rfl, rfl, rfl, hd3, hr3⟩ := trodAll_cons hr2
  obtain ⟨v4, vs4, d4, ds4, p4, q4, rfl, rfl, rfl, hd4, hr4⟩ := trodAll_cons hr3
  obtain ⟨v5, vs5, d5, ds5, p5, q5, rfl, rfl, rfl, hd5, hr5⟩ := trodAll_cons hr4
  obtain ⟨v6, vs6, d6, ds6, p6, q6, rfl, rfl, rfl, hd6, hr6⟩ := trodAll_cons hr5
  obtain ⟨v7, vs7, d7, ds7, p7, q7, rfl, rfl, rfl, hd7, hr7⟩ := trodAll_cons hr6
  obtain ⟨v8, vs8, d8, ds8, p8, q8, rfl, rfl, rfl, hd8, hr8⟩ := trodAll_cons hr7
  obtain ⟨v9, vs9, d9, ds9, p9, q9, rfl, rfl, rfl, hd9, hr9⟩ := trodAll_cons hr8
  obtain ⟨rfl, rfl, rfl⟩ := trodAll_nil hr9
  exact ⟨v0, v1, v2, v3, v4, v5, v6, v7, v8, v9, d0, d1, d2, d3, d4, d5, d6, d7, d8, d9, p0, p1, p2, p3, p4, p5, p6, p7, p8, p9, by cases args; simp_all, rfl, by simp, hd0, hd1, hd2, hd3, hd4, hd5, hd6, hd7, hd8, hd9⟩
end
end Go.Proofs.Ytbecambkjmheiaa
