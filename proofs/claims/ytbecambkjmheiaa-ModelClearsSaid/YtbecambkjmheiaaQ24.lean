/- Texts of this seat, one behind the other: NAlive, NLawC, NOpen. -/
import Derived.Deep.Strs
import Derived.ChangeSlices
import Derived.Test.YtbecambkjmheiaaQ03
import Derived.Test.YtbecambkjmheiaaQ21
import Derived.Test.YtbecambkjmheiaaQ22
import Derived.Test.YtbecambkjmheiaaQ23
/- The law's own alive, and same. -/
namespace Go.Proofs.Ytbecambkjmheiaa
open Go.RowKit

theorem nal_one : cwE 4 [] 31 ([97, 98] : List UInt8).length (FW [97, 98] 31) = 0 ∧ (cwN 4 [] 31 ([97, 98] : List UInt8).length (FW [97, 98] 31)).length = 2 := by decide +kernel
theorem nal_two : cText (cwN 4 [] 31 ([97, 98] : List UInt8).length (FW [97, 98] 31)) 30 4 = [0, 97, 98, 0] ∧ cWhy (cwN 4 [] 31 ([97, 98] : List UInt8).length (FW [97, 98] 31)) 30 4 = 0 := by decide +kernel

set_option maxRecDepth 100000 in
set_option maxHeartbeats 2000000 in
theorem nalive_any (w : World) : Calls Try.prog 9 #[] w fun e w' => e = .returned (.bool true) ∧ Below w.heap.size w w' := by
  have HW : Hid (∀ W, Calls Try.prog 7 #[.slice none 0 0, .int .i64 4, .int .u64 31, .string ⟨#[97, 98]⟩] W fun e w' => ∃ B d, e = .returned (.tuple #[.slice B 2 d, .int .i64 0]) ∧ CR w' B (cwN 4 [] 31 ([97, 98] : List UInt8).length (FW [97, 98] 31)) ∧ Below W.heap.size W w') := Lib.hid fun W => by
    refine (nwrite_any none 0 0 31 4 [] [97, 98] W (CR.nil _ _) rfl (fun _ => rfl) (by omega) (by omega) (by simp)).mono ?_
    rintro e w' ⟨B, d, rfl, _, _, k3, k4⟩
    rw [nal_one.1, nal_one.2]
    exact ⟨B, d, rfl, k3, k4⟩
  have HR : Hid (∀ B d W, CR W B (cwN 4 [] 31 ([97, 98] : List UInt8).length (FW [97, 98] 31)) → Calls Try.prog 13 #[.slice B 2 d, .agg #[.int .u64 30, .int .u64 4]] W fun e w' => e = .returned (.tuple #[.string ⟨#[0, 97, 98, 0]⟩, .int .i64 0]) ∧ Below W.heap.size W w') := Lib.hid fun B d W h => by
    have := nread_any B 2 d 30 4 _ W h nal_one.2 (by omega) (by omega) (by omega)
    rw [nal_two.1, nal_two.2] at this
    exact this
  generalize cwN 4 [] 31 ([97, 98] : List UInt8).length (FW [97, 98] 31) = N at *
  go_enter Try.func9, Try.ntmps9
  go_wp2_with fail
  refine (HW.out _).mono ?_
  rintro e w1 ⟨B, d, rfl, k3, k4⟩
  have HK := Lib.hid k3
  have HB := Lib.hid k4
  clear k3 k4
  go_wp2_with fail
  refine (HR.out _ _ _ HK.out).mono ?_
  rintro e w2 ⟨rfl, hb2⟩
  have HB2 := Lib.hid (bt HB.out hb2)
  clear hb2
  go_wp2
  go_ret
  exact ⟨rfl, HB2.out⟩

set_option maxRecDepth 100000 in
set_option maxHeartbeats 2000000 in
theorem nsame_yes (A A2 : Option Addr) (n c n2 c2 f len m : Nat) (N L : List CL) (T : List UInt8) (w : World) (hA : CR w A N) (hl : N.length = n) (hn : n ≤ 65536) (hA2 : CR w A2 L) (hl2 : L.length = n2) (hN : CRt N) (hL : CRt L) (h1 : 1 ≤ len) (h2 : len ≤ 224) (h3 : f + len ≤ 18446744073709551616) (hm : m < 18446744073709551616)
    (hT : cread N f len = T) (hB : ¬ (f ≤ m ∧ m < f + len) → cByte N m = cByte L m) :
    Calls Try.prog 16 #[.slice A n c, .agg #[vu f, vu len], sv T, .slice A2 n2 c2, vu m] w fun e w' => e = .returned (.bool true) ∧ Below w.heap.size w w' := by
  have hn2 : n2 ≤ 65536 := by have := hL.1; omega
  have HR : Hid (∀ W, Below w.heap.size w W → Calls Try.prog 13 #[.slice A n c, .agg #[vu f, vu len]] W fun e w' => e = .returned (.tuple #[sv T, .int .i64 0]) ∧ Below W.heap.size W w') := Lib.hid fun W hb => by
    have h0 : cWhy N f len = 0 := cWhy_ok.2 ⟨hN, h1, h2, h3⟩
    have := nread_any A n c f len N W (hA.later hb) hl hn (by omega) (by omega)
    rw [cText, if_pos h0, h0, hT] at this
    exact this
  have HG : Hid (∀ W, Below w.heap.size w W → Calls Try.prog 14 #[.slice A n c] W fun e w' => e = .returned (.bool true) ∧ Below W.heap.size W w') := Lib.hid fun W hb => by
    have := nright_any A n c N W (hA.later hb) hl hn
    rw [decide_eq_true hN] at this
    exact this
  have H1 : Hid (∀ W, Below w.heap.size w W → Calls Try.prog 13 #[.slice A n c, .agg #[vu m, .int .u64 1]] W fun e w' => e = .returned (.tuple #[sv [cByte N m], .int .i64 0]) ∧ Below W.heap.size W w') := Lib.hid fun W hb => by
    have h0 : cWhy N m 1 = 0 := cWhy_ok.2 ⟨hN, by omega, by omega, by omega⟩
    have := nread_any A n c m 1 N W (hA.later hb) hl hn hm (by omega)
    rw [cText, if_pos h0, h0] at this
    exact this
  have H2 : Hid (∀ W, Below w.heap.size w W → Calls Try.prog 13 #[.slice A2 n2 c2, .agg #[vu m, .int .u64 1]] W fun e w' => e = .returned (.tuple #[sv [cByte L m], .int .i64 0]) ∧ Below W.heap.size W w') := Lib.hid fun W hb => by
    have h0 : cWhy L m 1 = 0 := cWhy_ok.2 ⟨hL, by omega, by omega, by omega⟩
    have := nread_any A2 n2 c2 m 1 L W (hA2.later hb) hl2 hn2 hm (by omega)
    rw [cText, if_pos h0, h0] at this
    exact this
  clear hA hl hA2 hl2 hN hL hT hn hn2
  by_cases hin : f ≤ m ∧ m < f + len
  · have q1 : (f : Int) ≤ (m : Int) := by omega
    have q2 : IntKind.u64.wrap ((m : Int) - (f : Int)) = (m : Int) - (f : Int) := IntWalk.u64_in _ ⟨by omega, by omega⟩
    have q3 : (m : Int) - (f : Int) < (len : Int) := by omega
    clear hB hin h3 h2 h1 hm H1 H2
    go_enter Try.func16, Try.ntmps16
    go_wp2_with fail
    refine (HR.out _ (ba (Below.refl _ _) _)).mono ?_
    rintro e w1 ⟨rfl, hb1⟩
    obtain ⟨r0, _⟩ := At.later (v := vu f) (b := w.heap.size) (o := 0) ⟨by go_simp, by go_simp⟩ hb1
    obtain ⟨r1, _⟩ := At.later (v := vu len) (b := w.heap.size) (o := 1) ⟨by go_simp, by go_simp⟩ hb1
    have HB1 := Lib.hid (bt (ba (Below.refl w.heap.size w) _) hb1)
    clear hb1
    go_wp2_with fail
    refine (HG.out _ HB1.out).mono ?_
    rintro e w2 ⟨rfl, hb2⟩
    have s0 := cell_later hb2 r0
    have s1 := cell_later hb2 r1
    have HB2 := Lib.hid (bt HB1.out hb2)
    clear hb2 r0 r1
    go_wp2
    go_ret
    exact ⟨rfl, HB2.out⟩
  · have hBB := hB hin
    rw [hBB] at H1
    generalize cByte L m = b at *
    by_cases q1 : f ≤ m
    · have q1i : (f : Int) ≤ (m : Int) := by omega
      have q2 : IntKind.u64.wrap ((m : Int) - (f : Int)) = (m : Int) - (f : Int) := IntWalk.u64_in _ ⟨by omega, by omega⟩
      have q3 : ¬ ((m : Int) - (f : Int) < (len : Int)) := by omega
      clear hB hin h3 h2 h1 hm hBB q1
      go_enter Try.func16, Try.ntmps16
      go_wp2_with fail
      refine (HR.out _ (ba (Below.refl _ _) _)).mono ?_
      rintro e w1 ⟨rfl, hb1⟩
      obtain ⟨r0, _⟩ := At.later (v := vu f) (b := w.heap.size) (o := 0) ⟨by go_simp, by go_simp⟩ hb1
      obtain ⟨r1, _⟩ := At.later (v := vu len) (b := w.heap.size) (o := 1) ⟨by go_simp, by go_simp⟩ hb1
      have HB1 := Lib.hid (bt (ba (Below.refl w.heap.size w) _) hb1)
      clear hb1
      go_wp2_with fail
      refine (HG.out _ HB1.out).mono ?_
      rintro e w2 ⟨rfl, hb2⟩
      have s0 := cell_later hb2 r0
      have s1 := cell_later hb2 r1
      have HB2 := Lib.hid (bt HB1.out hb2)
      clear hb2 r0 r1
      go_wp2_with fail
      refine (H1.out _ HB2.out).mono ?_
      rintro e w3 ⟨rfl, hb3⟩
      have HB3 := Lib.hid (bt HB2.out hb3)
      clear hb3
      go_wp2_with fail
      refine (H2.out _ HB3.out).mono ?_
      rintro e w4 ⟨rfl, hb4⟩
      have HB4 := Lib.hid (bt HB3.out hb4)
      clear hb4
      go_wp2
      go_ret
      exact ⟨by simp, HB4.out⟩
    · have q1i : ¬ ((f : Int) ≤ (m : Int)) := by omega
      clear hB hin h3 h2 h1 hm hBB q1
      go_enter Try.func16, Try.ntmps16
      go_wp2_with fail
      refine (HR.out _ (ba (Below.refl _ _) _)).mono ?_
      rintro e w1 ⟨rfl, hb1⟩
      obtain ⟨r0, _⟩ := At.later (v := vu f) (b := w.heap.size) (o := 0) ⟨by go_simp, by go_simp⟩ hb1
      have HB1 := Lib.hid (bt (ba (Below.refl w.heap.size w) _) hb1)
      clear hb1
      go_wp2_with fail
      refine (HG.out _ HB1.out).mono ?_
      rintro e w2 ⟨rfl, hb2⟩
      have s0 := cell_later hb2 r0
      have HB2 := Lib.hid (bt HB1.out hb2)
      clear hb2 r0
      go_wp2_with fail
      refine (H1.out _ HB2.out).mono ?_
      rintro e w3 ⟨rfl, hb3⟩
      have HB3 := Lib.hid (bt HB2.out hb3)
      clear hb3
      go_wp2_with fail
      refine (H2.out _ HB3.out).mono ?_
      rintro e w4 ⟨rfl, hb4⟩
      have HB4 := Lib.hid (bt HB3.out hb4)
      clear hb4
      go_wp2
      go_ret
      exact ⟨by simp, HB4.out⟩
end Go.Proofs.Ytbecambkjmheiaa
/- ModelClears, of plain lists. -/
namespace Go.Proofs.Ytbecambkjmheiaa
open Go.RowKit

/-- Discarding and zeroing always have room. -/
theorem nclear_room {L : List CL} {f len wh : Nat} {g : Nat → UInt8} (hw : wh = 2 ∨ wh = 3) : cwE 64 L f len (cF wh g f len) = cWhy L f len ∧ cwN 64 L f len (cF wh g f len) = cNow L f len (cF wh g f len) := by
  by_cases hy : cWhy L f len = 0
  · obtain ⟨hR, _⟩ := cWhy_ok.1 hy
    have hfit : cFit 64 L (cNow L f len (cF wh g f len)) := by
      rw [cNow_yes hy]
      exact .inl (cdo_len (cup_cs hR.2.2) (cF_n _ _ _ _) (fun n => cF_hole g f len hw n))
    have h1 : cwE 64 L f len (cF wh g f len) = 0 := by rw [cwE, if_neg (fun h => h hy), if_pos hfit]
    exact ⟨by rw [h1, hy], by rw [cwN, if_pos h1]⟩
  · have h1 : cwE 64 L f len (cF wh g f len) = cWhy L f len := by rw [cwE, if_pos hy]
    exact ⟨h1, by rw [cwN, if_neg (by rw [h1]; exact hy), cNow_no hy]⟩

set_option maxRecDepth 100000 in
set_option maxHeartbeats 1000000 in
theorem nclears_holds (A : Option Addr) (n c f len : Nat) (L0 : List CL) (w : World) (hA : CR w A L0) (hl : L0.length = n) (hc : n ≤ c) (hf : f < 18446744073709551616) (hm : len < 18446744073709551616) :
    Calls Try.prog 4 #[.slice A n c, .agg #[vu f, vu len]] w fun e w' => e = .returned (.bool true) ∧ Below w.heap.size w w' := by
  have HFew := Lib.hid (fun W (hb : Below w.heap.size w W) => nfew_any A n c L0 W (hA.later hb) hl hc)
  have HAl := Lib.hid (fun W => nalive_any W)
  have HLL := Lib.hid (cFew_len L0)
  clear hA hl hc
  generalize cFew L0 = L at *
  have HD : Hid (∀ W B d, CR W B L → (B = none → d = 0) → Calls Try.prog 11 #[.slice B L.length d, .agg #[vu f, vu len]] W fun e w' => ∃ B2 d2, e = .returned (.tuple #[.slice B2 (cNow L f len (FD f len)).length d2, .int .i64 (cWhy L f len)]) ∧ CR w' B2 (cNow L f len (FD f len)) ∧ Below W.heap.size W w') := Lib.hid fun W B d hr h0 => by
    refine (ndiscard_any B L.length d f len L W hr rfl h0 (by have := HLL.out; omega) hf hm).mono ?_
    rintro e w' ⟨B2, d2, rfl, _, _, k3, k4⟩
    exact ⟨B2, d2, rfl, k3, k4⟩
  have HZ : Hid (∀ W B d, CR W B L → (B = none → d = 0) → Calls Try.prog 12 #[.slice B L.length d, .agg #[vu f, vu len]] W fun e w' => ∃ B2 d2, e = .returned (.tuple #[.slice B2 (cNow L f len (FZ f len)).length d2, .int .i64 (cWhy L f len)]) ∧ CR w' B2 (cNow L f len (FZ f len)) ∧ Below W.heap.size W w') := Lib.hid fun W B d hr h0 => by
    refine (nzero_any B L.length d f len L W hr rfl h0 (by have := HLL.out; omega) hf hm).mono ?_
    rintro e w' ⟨B2, d2, rfl, _, _, k3, k4⟩
    exact ⟨B2, d2, rfl, k3, k4⟩
  have hF2 : cF 2 (cG (2 : Nat) []) f len = FD f len := by rw [cG_zero (by decide)]
  have hF3 : cF 3 (cG (3 : Nat) []) f len = FZ f len := by rw [cG_zero (by decide)]
  have HTD : Hid (∀ W B d B2 d2, CR W B L → CR W B2 (cNow L f len (FD f len)) → Calls Try.prog 10 #[.slice B L.length d, .slice B2 (cNow L f len (FD f len)).length d2, .int .i64 (cWhy L f len), .int .i64 64, .agg #[.int .i64 2, vu f, vu len, .string ⟨#[]⟩]] W fun e w' => e = .returned (.bool true) ∧ Below W.heap.size W w') := Lib.hid fun W B d B2 d2 hr hr2 => by
    have hlen := cNow_len (L := L) (f := f) (len := len) (F := FD f len) (cF_n _ _ _ _)
    have hrm := nclear_room (L := L) (f := f) (len := len) (g := fun _ => 0) (wh := 2) (.inl rfl)
    exact ntold_any B B2 L.length d (cNow L f len (FD f len)).length d2 f len 2 64 (cWhy L f len) [] L _ W hr rfl (by have := HLL.out; omega) hr2 rfl (by omega) hf hm (by omega) (fun h => absurd h (by decide)) (by rw [hF2]; exact hrm.1.symm) (by rw [hF2]; exact hrm.2.symm)
  have HTZ : Hid (∀ W B d B2 d2, CR W B L → CR W B2 (cNow L f len (FZ f len)) → Calls Try.prog 10 #[.slice B L.length d, .slice B2 (cNow L f len (FZ f len)).length d2, .int .i64 (cWhy L f len), .int .i64 64, .agg #[.int .i64 3, vu f, vu len, .string ⟨#[]⟩]] W fun e w' => e = .returned (.bool true) ∧ Below W.heap.size W w') := Lib.hid fun W B d B2 d2 hr hr2 => by
    have hlen := cNow_len (L := L) (f := f) (len := len) (F := FZ f len) (cF_n _ _ _ _)
    have hrm := nclear_room (L := L) (f := f) (len := len) (g := fun _ => 0) (wh := 3) (.inr rfl)
    exact ntold_any B B2 L.length d (cNow L f len (FZ f len)).length d2 f len 3 64 (cWhy L f len) [] L _ W hr rfl (by have := HLL.out; omega) hr2 rfl (by omega) hf hm (by omega) (fun h => absurd h (by decide)) (by rw [hF3]; exact hrm.1.symm) (by rw [hF3]; exact hrm.2.symm)
  clear hF2 hF3 hf hm
  generalize cNow L f len (FD f len) = ND at *
  generalize cNow L f len (FZ f len) = NZ at *
  generalize cWhy L f len = E at *
  go_enter Try.func4, Try.ntmps4
  go_wp2_with fail
  refine (HFew.out _ (ba (Below.refl _ _) _)).mono ?_
  rintro e w1 ⟨B0, d0, rfl, _, hn0, hr0, hb1⟩
  have S1 : Hid (Blk w1 w.heap.size 25 #[vu f, vu len]) := Lib.hid ((Blk.new w _ _).below hb1)
  have HB1 := Lib.hid (bt (ba (Below.refl w.heap.size w) _) hb1)
  have R1 := Lib.hid hr0
  have HN0 := Lib.hid hn0
  clear hb1 hr0 hn0
  obtain ⟨q10, r10⟩ := S1.out.at_ (i := 0) (v := vu f) rfl
  obtain ⟨q11, r11⟩ := S1.out.at_ (i := 1) (v := vu len) rfl
  go_wp2_with fail
  refine (HD.out _ _ _ R1.out HN0.out).mono ?_
  rintro e w2 ⟨B1, d1, rfl, hr1, hb2⟩
  have S2 := Lib.hid (S1.out.below hb2)
  have HB2 := Lib.hid (bt HB1.out hb2)
  have R2 := Lib.hid (R1.out.later hb2)
  have D2 := Lib.hid hr1
  clear hb2 hr1
  obtain ⟨q20, r20⟩ := S2.out.at_ (i := 0) (v := vu f) rfl
  obtain ⟨q21, r21⟩ := S2.out.at_ (i := 1) (v := vu len) rfl
  go_wp2_with fail
  refine (HZ.out _ _ _ R2.out HN0.out).mono ?_
  rintro e w3 ⟨B2, d2, rfl, hr2, hb3⟩
  have S3 := Lib.hid (S2.out.below hb3)
  have HB3 := Lib.hid (bt HB2.out hb3)
  have R3 := Lib.hid (R2.out.later hb3)
  have D3 := Lib.hid (D2.out.later hb3)
  have Z3 := Lib.hid hr2
  clear hb3 hr2
  go_wp2_with fail
  refine (HAl.out _).mono ?_
  rintro e w4 ⟨rfl, hb4⟩
  have S4 := Lib.hid (S3.out.below hb4)
  have HB4 := Lib.hid (bt HB3.out hb4)
  have R4 := Lib.hid (R3.out.later hb4)
  have D4 := Lib.hid (D3.out.later hb4)
  have Z4 := Lib.hid (Z3.out.later hb4)
  clear hb4
  obtain ⟨q40, r40⟩ := S4.out.at_ (i := 0) (v := vu f) rfl
  obtain ⟨q41, r41⟩ := S4.out.at_ (i := 1) (v := vu len) rfl
  go_wp2_with fail
  refine (HTD.out _ _ _ _ _ R4.out D4.out).mono ?_
  rintro e w5 ⟨rfl, hb5⟩
  have S5 := Lib.hid (S4.out.below hb5)
  have HB5 := Lib.hid (bt HB4.out hb5)
  have R5 := Lib.hid (R4.out.later hb5)
  have Z5 := Lib.hid (Z4.out.later hb5)
  clear hb5
  obtain ⟨q50, r50⟩ := S5.out.at_ (i := 0) (v := vu f) rfl
  obtain ⟨q51, r51⟩ := S5.out.at_ (i := 1) (v := vu len) rfl
  go_wp2_with fail
  refine (HTZ.out _ _ _ _ _ R5.out Z5.out).mono ?_
  rintro e w6 ⟨rfl, hb6⟩
  have HB6 := Lib.hid (bt HB5.out hb6)
  clear hb6
  go_wp2
  go_ret
  exact ⟨rfl, HB6.out⟩
end Go.Proofs.Ytbecambkjmheiaa
/- Cells, and a span, that came in as parameters, opened. -/
namespace Go.Proofs.Ytbecambkjmheiaa
open Go.ChangeShapes Go.WideShapes Go.ChangeAt Go.RowKit Go.Joins Go.Deep
theorem cellsCl : Try.prog.cellsOf 45 = 3 := by kernel_rfl
theorem cellsSp : Try.prog.cellsOf 25 = 2 := by kernel_rfl

set_option maxRecDepth 100000 in
theorem open_cells_in {H : Type} {enc : TypeId × Value → H} {W : World} {base fuel : Nat} {sp : Nat → Bool} {x : Value} {y : DataW H × List MemPlace}
    (hf : DataW.trod enc Try.prog W base sp true fuel 22 [x] = some y) :
    ∃ (A : Option Addr) (cap : Nat) (L : List CL), x = .slice A L.length cap ∧ L.length ≤ cap ∧ CR W A L := by
  rcases iopen_slice_fields Try.underlying22 Try.underlying45 (by kernel_rfl) cellsCl hf with ⟨hcs, _⟩ | ⟨a, len, cap, m, D, Pl, hcs, _, hle, hcap, hm, _, hi⟩
  · exact ⟨none, 0, [], by simpa using hcs, Nat.le_refl _, CR.nil _ _⟩
  · have hml : len ≤ m := by rw [hm]; split <;> omega
    obtain ⟨L, hL, hq⟩ := ilist_of (Q := fun i (q : CL) => W.cell? (a.add (i * 3)) = some (vu q.n) ∧ W.cell? (a.add (i * 3 + 1)) = some (.int .i64 q.s) ∧ W.cell? (a.add (i * 3 + 2)) = some (sv q.d)) len (fun i hil => by
      obtain ⟨ys, n, _, _, _, hff⟩ := hi i (by omega)
      obtain ⟨u0, y0, c0, _, t0⟩ := hff 0 _ rfl
      obtain ⟨u1, y1, c1, _, t1⟩ := hff 1 _ rfl
      obtain ⟨u2, y2, c2, _, t2⟩ := hff 2 _ rfl
      obtain ⟨x0, e0, _, w0⟩ := DataW.trod_int Try.underlying23 t0
      obtain ⟨x1, e1, _, w1⟩ := DataW.trod_int Try.underlying3 t1
      obtain ⟨s, e2, _, ws⟩ := DataW.trod_string Try.underlying9 t2
      simp at e0 e1 e2
      subst e0 e1 e2
      obtain ⟨l, rfl, hl⟩ := str_list s
      obtain ⟨m, rfl, hlt⟩ := u64_nat w0
      exact ⟨⟨m, x1, l⟩, c0, c1, c2⟩)
    refine ⟨some a, cap, L, by rw [hL]; simpa using hcs, by omega, fun j hj => ?_⟩
    obtain ⟨q0, q1, q2⟩ := hq j hj
    obtain ⟨g, off, s⟩ := a
    have hs : s = none := by
      have := (hq 0 (by omega)).1
      simpa [Addr.add] using World.cell?_spot this
    subst hs
    rw [Go.WideShapes.add_plain] at q0 q1 q2
    rw [← Nat.add_assoc] at q1 q2
    have e : L.getD j default = L[j] := by simp [List.getD, hj]
    rw [e]
    exact ⟨g, off, rfl, q0, q1, q2⟩
set_option maxRecDepth 100000 in
theorem open_cells {H : Type} {enc : TypeId × Value → H} {W : World} {base : Nat} {sp : Nat → Bool} {r : Reach} {b0 : Nat} {v : Value} {d : DataW H} {p : List MemPlace}
    (hv : Value.okWide Try.prog W r b0 22 v) (h : DataW.Trod enc Try.prog W base sp true 22 v d p) :
    ∃ (A : Option Addr) (cap : Nat) (L : List CL), v = .slice A L.length cap ∧ L.length ≤ cap ∧ CR W A L := by
  obtain ⟨a0, len0, cap0, rfl⟩ := okWide_slice Try.underlying22 hv
  obtain ⟨fuel, hf⟩ := h
  exact open_cells_in (by simpa [Value.cells] using hf)
set_option maxRecDepth 100000 in
theorem open_nspan {H : Type} {enc : TypeId × Value → H} {W : World} {base : Nat} {sp : Nat → Bool} {r : Reach} {b0 : Nat} {v : Value} {d : DataW H} {p : List MemPlace}
    (hv : Value.okWide Try.prog W r b0 25 v) (h : DataW.Trod enc Try.prog W base sp true 25 v d p) :
    ∃ (f n : Nat), v = .agg #[vu f, vu n] ∧ f < 18446744073709551616 ∧ n < 18446744073709551616 := by
  obtain ⟨cs, rfl, hcs⟩ := okWide_struct Try.underlying25 hv
  obtain ⟨fuel, hf⟩ := h
  rw [cellsSp] at hcs
  obtain ⟨x, y, rfl⟩ : ∃ x y, cs = #[x, y] := by
    obtain ⟨l⟩ := cs
    match l, hcs with
    | [x, y], _ => exact ⟨x, y, rfl⟩
  obtain ⟨y0, y1, n, _, _, t0, t1⟩ := trod_struct2 Try.underlying25 hf
  have e0 : Try.prog.cellsOf 23 = 1 := by kernel_rfl
  simp only [e0] at t0 t1
  obtain ⟨k0, h0, _, w0⟩ := DataW.trod_int Try.underlying23 (by simpa [Value.cells] using t0)
  obtain ⟨k1, h1, _, w1⟩ := DataW.trod_int Try.underlying23 (by simpa [Value.cells] using t1)
  simp at h0 h1
  subst h0 h1
  obtain ⟨a, rfl, ha⟩ := u64_nat w0
  obtain ⟨b, rfl, hb⟩ := u64_nat w1
  exact ⟨a, b, rfl, ha, hb⟩
end Go.Proofs.Ytbecambkjmheiaa
