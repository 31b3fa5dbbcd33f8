/- Texts of this seat, one behind the other: NROne. -/
import Derived.Test.YtbecambkjmheiaaQ08
/- The reference's one: what becomes of a block. -/
namespace Go.Proofs.Ytbecambkjmheiaa
open Go.RowKit

theorem cG_zero {what : Int} {T : List UInt8} (h : what ≠ 1) : cG what T = fun _ => 0 := by
  funext j; unfold cG; rw [if_neg h]

set_option maxRecDepth 100000 in
set_option maxHeartbeats 400000 in
theorem nrone_one (A : Option Addr) (n cap bn f len : Nat) (T : List UInt8) (L : List CL) (w : World) (hA : CR w A L) (hl : L.length = n) (hR : CRt L) (hbn : bn < 576460752303423488) (hf : f < 18446744073709551616) (hT : T.length = len) :
    Calls Try.prog 45 #[.slice A n cap, vu bn, .agg #[.int .i64 1, vu f, vu len, sv T]] w fun e w' => e = .returned (cv (cF 1 (cG 1 T) f len (cAt L bn))) ∧ Below w.heap.size w w' := by
  have HAt : Hid (∀ W, Below w.heap.size w W → Calls Try.prog 59 #[.slice A n cap, .int .u64 (bn : Int)] W fun e w' => e = .returned (.agg #[.int .u64 (bn : Int), .int .i64 (cAt L bn).s, sv (cAt L bn).d]) ∧ Below W.heap.size W w') := Lib.hid fun W hb => by
    have h := nrat_any A n cap bn L W (hA.later hb) hl (by have := hR.1; omega)
    have e : cv (cAt L bn) = .agg #[.int .u64 (bn : Int), .int .i64 (cAt L bn).s, sv (cAt L bn).d] := by rw [cv, cat_n]
    rwa [e] at h
  have HD : Hid (∀ W, Below w.heap.size w W → Calls Try.prog 60 #[.slice A n cap, .int .u64 (bn : Int), .agg #[.int .i64 1, vu f, vu len, sv T]] W fun e w' => e = .returned (sv (cmix (cG 1 T) f len (cAt L bn))) ∧ Below W.heap.size W w') := Lib.hid fun W hb => nrdata_any A n cap bn f len 1 T L W (hA.later hb) hl hR hbn hf (fun _ => hT)
  have e : cv (cF 1 (cG 1 T) f len (cAt L bn)) = .agg #[.int .u64 (bn : Int), .int .i64 1, sv (cmix (cG 1 T) f len (cAt L bn))] := by
    unfold cF
    simp [cat_n]
  rw [e]
  clear e
  generalize cmix (cG 1 T) f len (cAt L bn) = D at *
  generalize (cAt L bn).s = os at *
  generalize (cAt L bn).d = od at *
  clear hA hl hR hbn hf
  show Calls Try.prog 45 #[.slice A n cap, .int .u64 (bn : Int), .agg #[.int .i64 1, vu f, vu len, sv T]] w fun e w' => e = .returned (.agg #[.int .u64 (bn : Int), .int .i64 1, sv D]) ∧ Below w.heap.size w w'
  generalize (bn : Int) = B at *
  go_enter Try.func45, Try.ntmps45
  go_wp2_with fail
  refine (HAt.out _ (ba (ba (Below.refl _ _) _) _)).mono ?_
  rintro e w1 ⟨rfl, hb1⟩
  have C1 : Hid (Blk (w1.alloc (.cells #[.int .u64 B, .int .i64 os, sv od] 45)) w.heap.size 34 #[.int .i64 1, vu f, vu len, sv T]) := Lib.hid ((((Blk.new w _ _).alloc _).below hb1).alloc _)
  have R1 : Hid (Blk (w1.alloc (.cells #[.int .u64 B, .int .i64 os, sv od] 45)) (w.heap.size + 1) 45 #[vu 0, .int .i64 0, sv []]) := Lib.hid (((Blk.newAt (w := w.alloc (.cells #[.int .i64 1, vu f, vu len, sv T] 34)) (by simp) _ _).below hb1).alloc _)
  have O1 : Hid (Blk (w1.alloc (.cells #[.int .u64 B, .int .i64 os, sv od] 45)) w1.heap.size 45 #[.int .u64 B, .int .i64 os, sv od]) := Lib.hid (Blk.new _ _ _)
  have HB1 : Hid (Below w.heap.size w (w1.alloc (.cells #[.int .u64 B, .int .i64 os, sv od] 45))) := Lib.hid (ba (bt (ba (ba (Below.refl w.heap.size w) _) _) hb1) _)
  clear hb1
  obtain ⟨q10, r10⟩ := C1.out.at_ (i := 0) (v := .int .i64 1) rfl
  obtain ⟨q11, r11⟩ := C1.out.at_ (i := 1) (v := vu f) rfl
  obtain ⟨q12, r12⟩ := C1.out.at_ (i := 2) (v := vu len) rfl
  obtain ⟨q13, r13⟩ := C1.out.at_ (i := 3) (v := sv T) rfl
  go_wp2_with fail
  refine (HD.out _ HB1.out).mono ?_
  rintro e w2 ⟨rfl, hb2⟩
  have C2 := Lib.hid (C1.out.below hb2)
  have R2 := Lib.hid (R1.out.below hb2)
  have O2 := Lib.hid (O1.out.below hb2)
  have HB2 := Lib.hid (bt HB1.out hb2)
  clear hb2
  obtain ⟨q20, r20⟩ := C2.out.at_ (i := 0) (v := .int .i64 1) rfl
  obtain ⟨q21, r21⟩ := C2.out.at_ (i := 1) (v := vu f) rfl
  obtain ⟨q22, r22⟩ := C2.out.at_ (i := 2) (v := vu len) rfl
  obtain ⟨q23, r23⟩ := C2.out.at_ (i := 3) (v := sv T) rfl
  obtain ⟨p20, s20⟩ := R2.out.at_ (i := 0) (v := vu 0) rfl
  obtain ⟨p21, s21⟩ := R2.out.at_ (i := 1) (v := .int .i64 0) rfl
  obtain ⟨p22, s22⟩ := R2.out.at_ (i := 2) (v := sv []) rfl
  obtain ⟨x20, y20⟩ := O2.out.at_ (i := 0) (v := .int .u64 B) rfl
  obtain ⟨x21, y21⟩ := O2.out.at_ (i := 1) (v := .int .i64 os) rfl
  obtain ⟨x22, y22⟩ := O2.out.at_ (i := 2) (v := sv od) rfl
  have HO := Lib.hid (((R2.out.set_ 0 (.int .u64 B)).set_ 1 (.int .i64 1)).set_ 2 (sv D))
  have o0 := HO.out.cell 0
  have o1 := HO.out.cell 1
  have o2 := HO.out.cell 2
  simp at o0 o1 o2
  go_wp2
  refine bodyPost_ret (v := .agg #[.int .u64 B, .int .i64 1, sv D]) (by simp [results, Try.results45, go_sem, o0, o1, o2]) rfl ⟨rfl, ?_⟩
  exact bs (bs (bs HB2.out (Nat.le_succ _) _) (Nat.le_succ _) _) (Nat.le_succ _) _

set_option maxRecDepth 100000 in
set_option maxHeartbeats 400000 in
theorem nrone_four0 (A : Option Addr) (n cap bn f len : Nat) (T : List UInt8) (L : List CL) (w : World) (hA : CR w A L) (hl : L.length = n) (hR : CRt L) (_ : bn < 576460752303423488) (_ : f < 18446744073709551616) (hs : (cAt L bn).s = 0) :
    Calls Try.prog 45 #[.slice A n cap, vu bn, .agg #[.int .i64 4, vu f, vu len, sv T]] w fun e w' => e = .returned (cv (cF 4 (cG 4 T) f len (cAt L bn))) ∧ Below w.heap.size w w' := by
  have HAt : Hid (∀ W, Below w.heap.size w W → Calls Try.prog 59 #[.slice A n cap, .int .u64 (bn : Int)] W fun e w' => e = .returned (.agg #[.int .u64 (bn : Int), .int .i64 (cAt L bn).s, sv (cAt L bn).d]) ∧ Below W.heap.size W w') := Lib.hid fun W hb => by
    have h := nrat_any A n cap bn L W (hA.later hb) hl (by have := hR.1; omega)
    have e : cv (cAt L bn) = .agg #[.int .u64 (bn : Int), .int .i64 (cAt L bn).s, sv (cAt L bn).d] := by rw [cv, cat_n]
    rwa [e] at h
  have e : cv (cF 4 (cG 4 T) f len (cAt L bn)) = .agg #[.int .u64 (bn : Int), .int .i64 2, sv []] := by
    rw [cG_zero (show (4 : Int) ≠ 1 by decide)]; unfold cF
    simp [cat_n, hs]
  rw [e]
  clear e
  rw [hs] at HAt
  generalize (cAt L bn).d = od at *
  clear hA hl hR
  show Calls Try.prog 45 #[.slice A n cap, .int .u64 (bn : Int), .agg #[.int .i64 4, vu f, vu len, sv T]] w fun e w' => e = .returned (.agg #[.int .u64 (bn : Int), .int .i64 2, sv []]) ∧ Below w.heap.size w w'
  generalize (bn : Int) = B at *
  go_enter Try.func45, Try.ntmps45
  go_wp2_with fail
  refine (HAt.out _ (ba (ba (Below.refl _ _) _) _)).mono ?_
  rintro e w1 ⟨rfl, hb1⟩
  have C1 : Hid (Blk (w1.alloc (.cells #[.int .u64 B, .int .i64 0, sv od] 45)) w.heap.size 34 #[.int .i64 4, vu f, vu len, sv T]) := Lib.hid ((((Blk.new w _ _).alloc _).below hb1).alloc _)
  have R1 : Hid (Blk (w1.alloc (.cells #[.int .u64 B, .int .i64 0, sv od] 45)) (w.heap.size + 1) 45 #[vu 0, .int .i64 0, sv []]) := Lib.hid (((Blk.newAt (w := w.alloc (.cells #[.int .i64 4, vu f, vu len, sv T] 34)) (by simp) _ _).below hb1).alloc _)
  have O1 : Hid (Blk (w1.alloc (.cells #[.int .u64 B, .int .i64 0, sv od] 45)) w1.heap.size 45 #[.int .u64 B, .int .i64 0, sv od]) := Lib.hid (Blk.new _ _ _)
  have HB1 : Hid (Below w.heap.size w (w1.alloc (.cells #[.int .u64 B, .int .i64 0, sv od] 45))) := Lib.hid (ba (bt (ba (ba (Below.refl w.heap.size w) _) _) hb1) _)
  clear hb1
  obtain ⟨q10, r10⟩ := C1.out.at_ (i := 0) (v := .int .i64 4) rfl
  obtain ⟨q11, r11⟩ := C1.out.at_ (i := 1) (v := vu f) rfl
  obtain ⟨q12, r12⟩ := C1.out.at_ (i := 2) (v := vu len) rfl
  obtain ⟨q13, r13⟩ := C1.out.at_ (i := 3) (v := sv T) rfl
  obtain ⟨p10, s10⟩ := R1.out.at_ (i := 0) (v := vu 0) rfl
  obtain ⟨p11, s11⟩ := R1.out.at_ (i := 1) (v := .int .i64 0) rfl
  obtain ⟨p12, s12⟩ := R1.out.at_ (i := 2) (v := sv []) rfl
  obtain ⟨x10, y10⟩ := O1.out.at_ (i := 0) (v := .int .u64 B) rfl
  obtain ⟨x11, y11⟩ := O1.out.at_ (i := 1) (v := .int .i64 0) rfl
  obtain ⟨x12, y12⟩ := O1.out.at_ (i := 2) (v := sv od) rfl
  have HO := Lib.hid (((R1.out.set_ 0 (.int .u64 B)).set_ 1 (.int .i64 2)).set_ 2 (sv []))
  have o0 := HO.out.cell 0
  have o1 := HO.out.cell 1
  have o2 := HO.out.cell 2
  simp at o0 o1 o2
  go_wp2
  refine bodyPost_ret (v := .agg #[.int .u64 B, .int .i64 2, sv []]) (by simp [results, Try.results45, go_sem, o0, o1, o2]) rfl ⟨rfl, ?_⟩
  exact bs (bs (bs HB1.out (Nat.le_succ _) _) (Nat.le_succ _) _) (Nat.le_succ _) _

set_option maxRecDepth 100000 in
set_option maxHeartbeats 400000 in
theorem nrone_four (A : Option Addr) (n cap bn f len : Nat) (T : List UInt8) (L : List CL) (w : World) (hA : CR w A L) (hl : L.length = n) (hR : CRt L) (_ : bn < 576460752303423488) (_ : f < 18446744073709551616) (hs : ¬ (cAt L bn).s = 0) :
    Calls Try.prog 45 #[.slice A n cap, vu bn, .agg #[.int .i64 4, vu f, vu len, sv T]] w fun e w' => e = .returned (cv (cF 4 (cG 4 T) f len (cAt L bn))) ∧ Below w.heap.size w w' := by
  have HAt : Hid (∀ W, Below w.heap.size w W → Calls Try.prog 59 #[.slice A n cap, .int .u64 (bn : Int)] W fun e w' => e = .returned (.agg #[.int .u64 (bn : Int), .int .i64 (cAt L bn).s, sv (cAt L bn).d]) ∧ Below W.heap.size W w') := Lib.hid fun W hb => by
    have h := nrat_any A n cap bn L W (hA.later hb) hl (by have := hR.1; omega)
    have e : cv (cAt L bn) = .agg #[.int .u64 (bn : Int), .int .i64 (cAt L bn).s, sv (cAt L bn).d] := by rw [cv, cat_n]
    rwa [e] at h
  have e : cv (cF 4 (cG 4 T) f len (cAt L bn)) = .agg #[.int .u64 (bn : Int), .int .i64 (cAt L bn).s, sv (cAt L bn).d] := by
    rw [cG_zero (show (4 : Int) ≠ 1 by decide)]; unfold cF
    simp [cat_n, hs]
  rw [e]
  clear e
  generalize (cAt L bn).s = os at *
  generalize (cAt L bn).d = od at *
  have h0d : decide (os = 0) = false := decide_eq_false hs
  have h0e : (os == 0) = false := by simpa using hs
  have h0f : (os != 0) = true := by simp [bne, h0e]
  clear hA hl hR
  show Calls Try.prog 45 #[.slice A n cap, .int .u64 (bn : Int), .agg #[.int .i64 4, vu f, vu len, sv T]] w fun e w' => e = .returned (.agg #[.int .u64 (bn : Int), .int .i64 os, sv od]) ∧ Below w.heap.size w w'
  generalize (bn : Int) = B at *
  go_enter Try.func45, Try.ntmps45
  go_wp2_with fail
  refine (HAt.out _ (ba (ba (Below.refl _ _) _) _)).mono ?_
  rintro e w1 ⟨rfl, hb1⟩
  have C1 : Hid (Blk (w1.alloc (.cells #[.int .u64 B, .int .i64 os, sv od] 45)) w.heap.size 34 #[.int .i64 4, vu f, vu len, sv T]) := Lib.hid ((((Blk.new w _ _).alloc _).below hb1).alloc _)
  have R1 : Hid (Blk (w1.alloc (.cells #[.int .u64 B, .int .i64 os, sv od] 45)) (w.heap.size + 1) 45 #[vu 0, .int .i64 0, sv []]) := Lib.hid (((Blk.newAt (w := w.alloc (.cells #[.int .i64 4, vu f, vu len, sv T] 34)) (by simp) _ _).below hb1).alloc _)
  have O1 : Hid (Blk (w1.alloc (.cells #[.int .u64 B, .int .i64 os, sv od] 45)) w1.heap.size 45 #[.int .u64 B, .int .i64 os, sv od]) := Lib.hid (Blk.new _ _ _)
  have HB1 : Hid (Below w.heap.size w (w1.alloc (.cells #[.int .u64 B, .int .i64 os, sv od] 45))) := Lib.hid (ba (bt (ba (ba (Below.refl w.heap.size w) _) _) hb1) _)
  clear hb1
  obtain ⟨q10, r10⟩ := C1.out.at_ (i := 0) (v := .int .i64 4) rfl
  obtain ⟨q11, r11⟩ := C1.out.at_ (i := 1) (v := vu f) rfl
  obtain ⟨q12, r12⟩ := C1.out.at_ (i := 2) (v := vu len) rfl
  obtain ⟨q13, r13⟩ := C1.out.at_ (i := 3) (v := sv T) rfl
  obtain ⟨p10, s10⟩ := R1.out.at_ (i := 0) (v := vu 0) rfl
  obtain ⟨p11, s11⟩ := R1.out.at_ (i := 1) (v := .int .i64 0) rfl
  obtain ⟨p12, s12⟩ := R1.out.at_ (i := 2) (v := sv []) rfl
  obtain ⟨x10, y10⟩ := O1.out.at_ (i := 0) (v := .int .u64 B) rfl
  obtain ⟨x11, y11⟩ := O1.out.at_ (i := 1) (v := .int .i64 os) rfl
  obtain ⟨x12, y12⟩ := O1.out.at_ (i := 2) (v := sv od) rfl
  have HO := Lib.hid (((R1.out.set_ 0 (.int .u64 B)).set_ 1 (.int .i64 os)).set_ 2 (sv od))
  have o0 := HO.out.cell 0
  have o1 := HO.out.cell 1
  have o2 := HO.out.cell 2
  simp at o0 o1 o2
  go_wp2
  refine bodyPost_ret (v := .agg #[.int .u64 B, .int .i64 os, sv od]) (by simp [results, Try.results45, go_sem, o0, o1, o2]) rfl ⟨rfl, ?_⟩
  exact bs (bs (bs HB1.out (Nat.le_succ _) _) (Nat.le_succ _) _) (Nat.le_succ _) _

set_option maxRecDepth 100000 in
set_option maxHeartbeats 400000 in
theorem nrone_two (A : Option Addr) (n cap bn f len : Nat) (T : List UInt8) (L : List CL) (w : World) (hA : CR w A L) (hl : L.length = n) (hR : CRt L) (hbn : bn < 576460752303423488) (hf : f < 18446744073709551616) (hW : cWhole f len bn) :
    Calls Try.prog 45 #[.slice A n cap, vu bn, .agg #[.int .i64 2, vu f, vu len, sv T]] w fun e w' => e = .returned (cv (cF 2 (cG 2 T) f len (cAt L bn))) ∧ Below w.heap.size w w' := by
  have HAt : Hid (∀ W, Below w.heap.size w W → Calls Try.prog 59 #[.slice A n cap, .int .u64 (bn : Int)] W fun e w' => e = .returned (.agg #[.int .u64 (bn : Int), .int .i64 (cAt L bn).s, sv (cAt L bn).d]) ∧ Below W.heap.size W w') := Lib.hid fun W hb => by
    have h := nrat_any A n cap bn L W (hA.later hb) hl (by have := hR.1; omega)
    have e : cv (cAt L bn) = .agg #[.int .u64 (bn : Int), .int .i64 (cAt L bn).s, sv (cAt L bn).d] := by rw [cv, cat_n]
    rwa [e] at h
  have HWh : Hid (∀ W, Calls Try.prog 61 #[.int .u64 (bn : Int), .agg #[vu f, vu len]] W fun e w' => e = .returned (.bool true) ∧ Below W.heap.size W w') := Lib.hid fun W => by
    have h := nrwhole_any bn f len W hbn hf
    rwa [decide_eq_true hW] at h
  have e : cv (cF 2 (cG 2 T) f len (cAt L bn)) = .agg #[.int .u64 (bn : Int), .int .i64 0, sv []] := by
    rw [cG_zero (show (2 : Int) ≠ 1 by decide)]; unfold cF
    simp [cat_n, cHole, hW]
  rw [e]
  clear e
  generalize (cAt L bn).s = os at *
  generalize (cAt L bn).d = od at *
  clear hA hl hR hbn hf
  show Calls Try.prog 45 #[.slice A n cap, .int .u64 (bn : Int), .agg #[.int .i64 2, vu f, vu len, sv T]] w fun e w' => e = .returned (.agg #[.int .u64 (bn : Int), .int .i64 0, sv []]) ∧ Below w.heap.size w w'
  generalize (bn : Int) = B at *
  go_enter Try.func45, Try.ntmps45
  go_wp2_with fail
  refine (HAt.out _ (ba (ba (Below.refl _ _) _) _)).mono ?_
  rintro e w1 ⟨rfl, hb1⟩
  have C1 : Hid (Blk (w1.alloc (.cells #[.int .u64 B, .int .i64 os, sv od] 45)) w.heap.size 34 #[.int .i64 2, vu f, vu len, sv T]) := Lib.hid ((((Blk.new w _ _).alloc _).below hb1).alloc _)
  have R1 : Hid (Blk (w1.alloc (.cells #[.int .u64 B, .int .i64 os, sv od] 45)) (w.heap.size + 1) 45 #[vu 0, .int .i64 0, sv []]) := Lib.hid (((Blk.newAt (w := w.alloc (.cells #[.int .i64 2, vu f, vu len, sv T] 34)) (by simp) _ _).below hb1).alloc _)
  have O1 : Hid (Blk (w1.alloc (.cells #[.int .u64 B, .int .i64 os, sv od] 45)) w1.heap.size 45 #[.int .u64 B, .int .i64 os, sv od]) := Lib.hid (Blk.new _ _ _)
  have HB1 : Hid (Below w.heap.size w (w1.alloc (.cells #[.int .u64 B, .int .i64 os, sv od] 45))) := Lib.hid (ba (bt (ba (ba (Below.refl w.heap.size w) _) _) hb1) _)
  clear hb1
  obtain ⟨q10, r10⟩ := C1.out.at_ (i := 0) (v := .int .i64 2) rfl
  obtain ⟨q11, r11⟩ := C1.out.at_ (i := 1) (v := vu f) rfl
  obtain ⟨q12, r12⟩ := C1.out.at_ (i := 2) (v := vu len) rfl
  obtain ⟨q13, r13⟩ := C1.out.at_ (i := 3) (v := sv T) rfl
  go_wp2_with fail
  refine (HWh.out _).mono ?_
  rintro e w2 ⟨rfl, hb2⟩
  have C2 := Lib.hid (C1.out.below hb2)
  have R2 := Lib.hid (R1.out.below hb2)
  have O2 := Lib.hid (O1.out.below hb2)
  have HB2 := Lib.hid (bt HB1.out hb2)
  clear hb2
  obtain ⟨q20, r20⟩ := C2.out.at_ (i := 0) (v := .int .i64 2) rfl
  obtain ⟨q21, r21⟩ := C2.out.at_ (i := 1) (v := vu f) rfl
  obtain ⟨q22, r22⟩ := C2.out.at_ (i := 2) (v := vu len) rfl
  obtain ⟨q23, r23⟩ := C2.out.at_ (i := 3) (v := sv T) rfl
  obtain ⟨p20, s20⟩ := R2.out.at_ (i := 0) (v := vu 0) rfl
  obtain ⟨p21, s21⟩ := R2.out.at_ (i := 1) (v := .int .i64 0) rfl
  obtain ⟨p22, s22⟩ := R2.out.at_ (i := 2) (v := sv []) rfl
  obtain ⟨x20, y20⟩ := O2.out.at_ (i := 0) (v := .int .u64 B) rfl
  obtain ⟨x21, y21⟩ := O2.out.at_ (i := 1) (v := .int .i64 os) rfl
  obtain ⟨x22, y22⟩ := O2.out.at_ (i := 2) (v := sv od) rfl
  have HO := Lib.hid (((R2.out.set_ 0 (.int .u64 B)).set_ 1 (.int .i64 0)).set_ 2 (sv []))
  have o0 := HO.out.cell 0
  have o1 := HO.out.cell 1
  have o2 := HO.out.cell 2
  simp at o0 o1 o2
  go_wp2
  refine bodyPost_ret (v := .agg #[.int .u64 B, .int .i64 0, sv []]) (by simp [results, Try.results45, go_sem, o0, o1, o2]) rfl ⟨rfl, ?_⟩
  exact bs (bs (bs HB2.out (Nat.le_succ _) _) (Nat.le_succ _) _) (Nat.le_succ _) _

set_option maxRecDepth 100000 in
set_option maxHeartbeats 400000 in
theorem nrone_three1 (A : Option Addr) (n cap bn f len : Nat) (T : List UInt8) (L : List CL) (w : World) (hA : CR w A L) (hl : L.length = n) (hR : CRt L) (hbn : bn < 576460752303423488) (hf : f < 18446744073709551616) (hW : cWhole f len bn) (hs : ¬ (cAt L bn).s = 0) :
    Calls Try.prog 45 #[.slice A n cap, vu bn, .agg #[.int .i64 3, vu f, vu len, sv T]] w fun e w' => e = .returned (cv (cF 3 (cG 3 T) f len (cAt L bn))) ∧ Below w.heap.size w w' := by
  have HAt : Hid (∀ W, Below w.heap.size w W → Calls Try.prog 59 #[.slice A n cap, .int .u64 (bn : Int)] W fun e w' => e = .returned (.agg #[.int .u64 (bn : Int), .int .i64 (cAt L bn).s, sv (cAt L bn).d]) ∧ Below W.heap.size W w') := Lib.hid fun W hb => by
    have h := nrat_any A n cap bn L W (hA.later hb) hl (by have := hR.1; omega)
    have e : cv (cAt L bn) = .agg #[.int .u64 (bn : Int), .int .i64 (cAt L bn).s, sv (cAt L bn).d] := by rw [cv, cat_n]
    rwa [e] at h
  have HWh : Hid (∀ W, Calls Try.prog 61 #[.int .u64 (bn : Int), .agg #[vu f, vu len]] W fun e w' => e = .returned (.bool true) ∧ Below W.heap.size W w') := Lib.hid fun W => by
    have h := nrwhole_any bn f len W hbn hf
    rwa [decide_eq_true hW] at h
  have e : cv (cF 3 (cG 3 T) f len (cAt L bn)) = .agg #[.int .u64 (bn : Int), .int .i64 2, sv []] := by
    rw [cG_zero (show (3 : Int) ≠ 1 by decide)]; unfold cF
    simp [cat_n, hs, hW]
  rw [e]
  clear e
  generalize (cAt L bn).s = os at *
  generalize (cAt L bn).d = od at *
  have h0d : decide (os = 0) = false := decide_eq_false hs
  have h0e : (os == 0) = false := by simpa using hs
  have h0f : (os != 0) = true := by simp [bne, h0e]
  clear hA hl hR hbn hf
  show Calls Try.prog 45 #[.slice A n cap, .int .u64 (bn : Int), .agg #[.int .i64 3, vu f, vu len, sv T]] w fun e w' => e = .returned (.agg #[.int .u64 (bn : Int), .int .i64 2, sv []]) ∧ Below w.heap.size w w'
  generalize (bn : Int) = B at *
  go_enter Try.func45, Try.ntmps45
  go_wp2_with fail
  refine (HAt.out _ (ba (ba (Below.refl _ _) _) _)).mono ?_
  rintro e w1 ⟨rfl, hb1⟩
  have C1 : Hid (Blk (w1.alloc (.cells #[.int .u64 B, .int .i64 os, sv od] 45)) w.heap.size 34 #[.int .i64 3, vu f, vu len, sv T]) := Lib.hid ((((Blk.new w _ _).alloc _).below hb1).alloc _)
  have R1 : Hid (Blk (w1.alloc (.cells #[.int .u64 B, .int .i64 os, sv od] 45)) (w.heap.size + 1) 45 #[vu 0, .int .i64 0, sv []]) := Lib.hid (((Blk.newAt (w := w.alloc (.cells #[.int .i64 3, vu f, vu len, sv T] 34)) (by simp) _ _).below hb1).alloc _)
  have O1 : Hid (Blk (w1.alloc (.cells #[.int .u64 B, .int .i64 os, sv od] 45)) w1.heap.size 45 #[.int .u64 B, .int .i64 os, sv od]) := Lib.hid (Blk.new _ _ _)
  have HB1 : Hid (Below w.heap.size w (w1.alloc (.cells #[.int .u64 B, .int .i64 os, sv od] 45))) := Lib.hid (ba (bt (ba (ba (Below.refl w.heap.size w) _) _) hb1) _)
  clear hb1
  obtain ⟨q10, r10⟩ := C1.out.at_ (i := 0) (v := .int .i64 3) rfl
  obtain ⟨q11, r11⟩ := C1.out.at_ (i := 1) (v := vu f) rfl
  obtain ⟨q12, r12⟩ := C1.out.at_ (i := 2) (v := vu len) rfl
  obtain ⟨q13, r13⟩ := C1.out.at_ (i := 3) (v := sv T) rfl
  go_wp2_with fail
  refine (HWh.out _).mono ?_
  rintro e w2 ⟨rfl, hb2⟩
  have C2 := Lib.hid (C1.out.below hb2)
  have R2 := Lib.hid (R1.out.below hb2)
  have O2 := Lib.hid (O1.out.below hb2)
  have HB2 := Lib.hid (bt HB1.out hb2)
  clear hb2
  obtain ⟨q20, r20⟩ := C2.out.at_ (i := 0) (v := .int .i64 3) rfl
  obtain ⟨q21, r21⟩ := C2.out.at_ (i := 1) (v := vu f) rfl
  obtain ⟨q22, r22⟩ := C2.out.at_ (i := 2) (v := vu len) rfl
  obtain ⟨q23, r23⟩ := C2.out.at_ (i := 3) (v := sv T) rfl
  obtain ⟨p20, s20⟩ := R2.out.at_ (i := 0) (v := vu 0) rfl
  obtain ⟨p21, s21⟩ := R2.out.at_ (i := 1) (v := .int .i64 0) rfl
  obtain ⟨p22, s22⟩ := R2.out.at_ (i := 2) (v := sv []) rfl
  obtain ⟨x20, y20⟩ := O2.out.at_ (i := 0) (v := .int .u64 B) rfl
  obtain ⟨x21, y21⟩ := O2.out.at_ (i := 1) (v := .int .i64 os) rfl
  obtain ⟨x22, y22⟩ := O2.out.at_ (i := 2) (v := sv od) rfl
  have HO := Lib.hid (((R2.out.set_ 0 (.int .u64 B)).set_ 1 (.int .i64 2)).set_ 2 (sv []))
  have o0 := HO.out.cell 0
  have o1 := HO.out.cell 1
  have o2 := HO.out.cell 2
  simp at o0 o1 o2
  go_wp2
  refine bodyPost_ret (v := .agg #[.int .u64 B, .int .i64 2, sv []]) (by simp [results, Try.results45, go_sem, o0, o1, o2]) rfl ⟨rfl, ?_⟩
  exact bs (bs (bs HB2.out (Nat.le_succ _) _) (Nat.le_succ _) _) (Nat.le_succ _) _

set_option maxRecDepth 100000 in
set_option maxHeartbeats 400000 in
theorem nrone_three0 (A : Option Addr) (n cap bn f len : Nat) (T : List UInt8) (L : List CL) (w : World) (hA : CR w A L) (hl : L.length = n) (hR : CRt L) (hbn : bn < 576460752303423488) (hf : f < 18446744073709551616) (hW : cWhole f len bn) (hs : (cAt L bn).s = 0) :
    Calls Try.prog 45 #[.slice A n cap, vu bn, .agg #[.int .i64 3, vu f, vu len, sv T]] w fun e w' => e = .returned (cv (cF 3 (cG 3 T) f len (cAt L bn))) ∧ Below w.heap.size w w' := by
  have HAt : Hid (∀ W, Below w.heap.size w W → Calls Try.prog 59 #[.slice A n cap, .int .u64 (bn : Int)] W fun e w' => e = .returned (.agg #[.int .u64 (bn : Int), .int .i64 (cAt L bn).s, sv (cAt L bn).d]) ∧ Below W.heap.size W w') := Lib.hid fun W hb => by
    have h := nrat_any A n cap bn L W (hA.later hb) hl (by have := hR.1; omega)
    have e : cv (cAt L bn) = .agg #[.int .u64 (bn : Int), .int .i64 (cAt L bn).s, sv (cAt L bn).d] := by rw [cv, cat_n]
    rwa [e] at h
  have HWh : Hid (∀ W, Calls Try.prog 61 #[.int .u64 (bn : Int), .agg #[vu f, vu len]] W fun e w' => e = .returned (.bool true) ∧ Below W.heap.size W w') := Lib.hid fun W => by
    have h := nrwhole_any bn f len W hbn hf
    rwa [decide_eq_true hW] at h
  have e : cv (cF 3 (cG 3 T) f len (cAt L bn)) = .agg #[.int .u64 (bn : Int), .int .i64 0, sv []] := by
    rw [cG_zero (show (3 : Int) ≠ 1 by decide)]; unfold cF
    simp [cat_n, cHole, hs, hW]
  rw [e]
  clear e
  rw [hs] at HAt
  generalize (cAt L bn).d = od at *
  clear hA hl hR hbn hf
  show Calls Try.prog 45 #[.slice A n cap, .int .u64 (bn : Int), .agg #[.int .i64 3, vu f, vu len, sv T]] w fun e w' => e = .returned (.agg #[.int .u64 (bn : Int), .int .i64 0, sv []]) ∧ Below w.heap.size w w'
  generalize (bn : Int) = B at *
  go_enter Try.func45, Try.ntmps45
  go_wp2_with fail
  refine (HAt.out _ (ba (ba (Below.refl _ _) _) _)).mono ?_
  rintro e w1 ⟨rfl, hb1⟩
  have C1 : Hid (Blk (w1.alloc (.cells #[.int .u64 B, .int .i64 0, sv od] 45)) w.heap.size 34 #[.int .i64 3, vu f, vu len, sv T]) := Lib.hid ((((Blk.new w _ _).alloc _).below hb1).alloc _)
  have R1 : Hid (Blk (w1.alloc (.cells #[.int .u64 B, .int .i64 0, sv od] 45)) (w.heap.size + 1) 45 #[vu 0, .int .i64 0, sv []]) := Lib.hid (((Blk.newAt (w := w.alloc (.cells #[.int .i64 3, vu f, vu len, sv T] 34)) (by simp) _ _).below hb1).alloc _)
  have O1 : Hid (Blk (w1.alloc (.cells #[.int .u64 B, .int .i64 0, sv od] 45)) w1.heap.size 45 #[.int .u64 B, .int .i64 0, sv od]) := Lib.hid (Blk.new _ _ _)
  have HB1 : Hid (Below w.heap.size w (w1.alloc (.cells #[.int .u64 B, .int .i64 0, sv od] 45))) := Lib.hid (ba (bt (ba (ba (Below.refl w.heap.size w) _) _) hb1) _)
  clear hb1
  obtain ⟨q10, r10⟩ := C1.out.at_ (i := 0) (v := .int .i64 3) rfl
  obtain ⟨q11, r11⟩ := C1.out.at_ (i := 1) (v := vu f) rfl
  obtain ⟨q12, r12⟩ := C1.out.at_ (i := 2) (v := vu len) rfl
  obtain ⟨q13, r13⟩ := C1.out.at_ (i := 3) (v := sv T) rfl
  go_wp2_with fail
  refine (HWh.out _).mono ?_
  rintro e w2 ⟨rfl, hb2⟩
  have C2 := Lib.hid (C1.out.below hb2)
  have R2 := Lib.hid (R1.out.below hb2)
  have O2 := Lib.hid (O1.out.below hb2)
  have HB2 := Lib.hid (bt HB1.out hb2)
  clear hb2
  obtain ⟨q20, r20⟩ := C2.out.at_ (i := 0) (v := .int .i64 3) rfl
  obtain ⟨q21, r21⟩ := C2.out.at_ (i := 1) (v := vu f) rfl
  obtain ⟨q22, r22⟩ := C2.out.at_ (i := 2) (v := vu len) rfl
  obtain ⟨q23, r23⟩ := C2.out.at_ (i := 3) (v := sv T) rfl
  obtain ⟨p20, s20⟩ := R2.out.at_ (i := 0) (v := vu 0) rfl
  obtain ⟨p21, s21⟩ := R2.out.at_ (i := 1) (v := .int .i64 0) rfl
  obtain ⟨p22, s22⟩ := R2.out.at_ (i := 2) (v := sv []) rfl
  obtain ⟨x20, y20⟩ := O2.out.at_ (i := 0) (v := .int .u64 B) rfl
  obtain ⟨x21, y21⟩ := O2.out.at_ (i := 1) (v := .int .i64 0) rfl
  obtain ⟨x22, y22⟩ := O2.out.at_ (i := 2) (v := sv od) rfl
  have HO := Lib.hid (((R2.out.set_ 0 (.int .u64 B)).set_ 1 (.int .i64 0)).set_ 2 (sv []))
  have o0 := HO.out.cell 0
  have o1 := HO.out.cell 1
  have o2 := HO.out.cell 2
  simp at o0 o1 o2
  go_wp2
  refine bodyPost_ret (v := .agg #[.int .u64 B, .int .i64 0, sv []]) (by simp [results, Try.results45, go_sem, o0, o1, o2]) rfl ⟨rfl, ?_⟩
  exact bs (bs (bs HB2.out (Nat.le_succ _) _) (Nat.le_succ _) _) (Nat.le_succ _) _

set_option maxRecDepth 100000 in
set_option maxHeartbeats 400000 in
theorem nrone_two1 (A : Option Addr) (n cap bn f len : Nat) (T : List UInt8) (L : List CL) (w : World) (hA : CR w A L) (hl : L.length = n) (hR : CRt L) (hbn : bn < 576460752303423488) (hf : f < 18446744073709551616) (hW : ¬ cWhole f len bn) (hs : (cAt L bn).s = 1) :
    Calls Try.prog 45 #[.slice A n cap, vu bn, .agg #[.int .i64 2, vu f, vu len, sv T]] w fun e w' => e = .returned (cv (cF 2 (cG 2 T) f len (cAt L bn))) ∧ Below w.heap.size w w' := by
  have HAt : Hid (∀ W, Below w.heap.size w W → Calls Try.prog 59 #[.slice A n cap, .int .u64 (bn : Int)] W fun e w' => e = .returned (.agg #[.int .u64 (bn : Int), .int .i64 (cAt L bn).s, sv (cAt L bn).d]) ∧ Below W.heap.size W w') := Lib.hid fun W hb => by
    have h := nrat_any A n cap bn L W (hA.later hb) hl (by have := hR.1; omega)
    have e : cv (cAt L bn) = .agg #[.int .u64 (bn : Int), .int .i64 (cAt L bn).s, sv (cAt L bn).d] := by rw [cv, cat_n]
    rwa [e] at h
  have HD : Hid (∀ W, Below w.heap.size w W → Calls Try.prog 60 #[.slice A n cap, .int .u64 (bn : Int), .agg #[.int .i64 2, vu f, vu len, sv T]] W fun e w' => e = .returned (sv (cmix (cG 2 T) f len (cAt L bn))) ∧ Below W.heap.size W w') := Lib.hid fun W hb => nrdata_any A n cap bn f len 2 T L W (hA.later hb) hl hR hbn hf (fun h => absurd h (by decide))
  have HWh : Hid (∀ W, Calls Try.prog 61 #[.int .u64 (bn : Int), .agg #[vu f, vu len]] W fun e w' => e = .returned (.bool false) ∧ Below W.heap.size W w') := Lib.hid fun W => by
    have h := nrwhole_any bn f len W hbn hf
    rwa [decide_eq_false hW] at h
  have e : cv (cF 2 (cG 2 T) f len (cAt L bn)) = .agg #[.int .u64 (bn : Int), .int .i64 1, sv (cmix (cG 2 T) f len (cAt L bn))] := by
    rw [cG_zero (show (2 : Int) ≠ 1 by decide)]; unfold cF
    simp [cat_n, hs, hW]
  rw [e]
  clear e
  generalize cmix (cG 2 T) f len (cAt L bn) = D at *
  rw [hs] at HAt
  generalize (cAt L bn).d = od at *
  clear hA hl hR hbn hf
  show Calls Try.prog 45 #[.slice A n cap, .int .u64 (bn : Int), .agg #[.int .i64 2, vu f, vu len, sv T]] w fun e w' => e = .returned (.agg #[.int .u64 (bn : Int), .int .i64 1, sv D]) ∧ Below w.heap.size w w'
  generalize (bn : Int) = B at *
  go_enter Try.func45, Try.ntmps45
  go_wp2_with fail
  refine (HAt.out _ (ba (ba (Below.refl _ _) _) _)).mono ?_
  rintro e w1 ⟨rfl, hb1⟩
  have C1 : Hid (Blk (w1.alloc (.cells #[.int .u64 B, .int .i64 1, sv od] 45)) w.heap.size 34 #[.int .i64 2, vu f, vu len, sv T]) := Lib.hid ((((Blk.new w _ _).alloc _).below hb1).alloc _)
  have R1 : Hid (Blk (w1.alloc (.cells #[.int .u64 B, .int .i64 1, sv od] 45)) (w.heap.size + 1) 45 #[vu 0, .int .i64 0, sv []]) := Lib.hid (((Blk.newAt (w := w.alloc (.cells #[.int .i64 2, vu f, vu len, sv T] 34)) (by simp) _ _).below hb1).alloc _)
  have O1 : Hid (Blk (w1.alloc (.cells #[.int .u64 B, .int .i64 1, sv od] 45)) w1.heap.size 45 #[.int .u64 B, .int .i64 1, sv od]) := Lib.hid (Blk.new _ _ _)
  have HB1 : Hid (Below w.heap.size w (w1.alloc (.cells #[.int .u64 B, .int .i64 1, sv od] 45))) := Lib.hid (ba (bt (ba (ba (Below.refl w.heap.size w) _) _) hb1) _)
  clear hb1
  obtain ⟨q10, r10⟩ := C1.out.at_ (i := 0) (v := .int .i64 2) rfl
  obtain ⟨q11, r11⟩ := C1.out.at_ (i := 1) (v := vu f) rfl
  obtain ⟨q12, r12⟩ := C1.out.at_ (i := 2) (v := vu len) rfl
  obtain ⟨q13, r13⟩ := C1.out.at_ (i := 3) (v := sv T) rfl
  go_wp2_with fail
  refine (HWh.out _).mono ?_
  rintro e w2 ⟨rfl, hb2⟩
  have C2 := Lib.hid (C1.out.below hb2)
  have R2 := Lib.hid (R1.out.below hb2)
  have O2 := Lib.hid (O1.out.below hb2)
  have HB2 := Lib.hid (bt HB1.out hb2)
  clear hb2
  obtain ⟨q20, r20⟩ := C2.out.at_ (i := 0) (v := .int .i64 2) rfl
  obtain ⟨q21, r21⟩ := C2.out.at_ (i := 1) (v := vu f) rfl
  obtain ⟨q22, r22⟩ := C2.out.at_ (i := 2) (v := vu len) rfl
  obtain ⟨q23, r23⟩ := C2.out.at_ (i := 3) (v := sv T) rfl
  obtain ⟨p20, s20⟩ := R2.out.at_ (i := 0) (v := vu 0) rfl
  obtain ⟨p21, s21⟩ := R2.out.at_ (i := 1) (v := .int .i64 0) rfl
  obtain ⟨p22, s22⟩ := R2.out.at_ (i := 2) (v := sv []) rfl
  obtain ⟨x20, y20⟩ := O2.out.at_ (i := 0) (v := .int .u64 B) rfl
  obtain ⟨x21, y21⟩ := O2.out.at_ (i := 1) (v := .int .i64 1) rfl
  obtain ⟨x22, y22⟩ := O2.out.at_ (i := 2) (v := sv od) rfl
  go_wp2_with fail
  refine (HD.out _ HB2.out).mono ?_
  rintro e w3 ⟨rfl, hb3⟩
  have C3 := Lib.hid (C2.out.below hb3)
  have R3 := Lib.hid (R2.out.below hb3)
  have O3 := Lib.hid (O2.out.below hb3)
  have HB3 := Lib.hid (bt HB2.out hb3)
  clear hb3
  obtain ⟨q30, r30⟩ := C3.out.at_ (i := 0) (v := .int .i64 2) rfl
  obtain ⟨q31, r31⟩ := C3.out.at_ (i := 1) (v := vu f) rfl
  obtain ⟨q32, r32⟩ := C3.out.at_ (i := 2) (v := vu len) rfl
  obtain ⟨q33, r33⟩ := C3.out.at_ (i := 3) (v := sv T) rfl
  obtain ⟨p30, s30⟩ := R3.out.at_ (i := 0) (v := vu 0) rfl
  obtain ⟨p31, s31⟩ := R3.out.at_ (i := 1) (v := .int .i64 0) rfl
  obtain ⟨p32, s32⟩ := R3.out.at_ (i := 2) (v := sv []) rfl
  obtain ⟨x30, y30⟩ := O3.out.at_ (i := 0) (v := .int .u64 B) rfl
  obtain ⟨x31, y31⟩ := O3.out.at_ (i := 1) (v := .int .i64 1) rfl
  obtain ⟨x32, y32⟩ := O3.out.at_ (i := 2) (v := sv od) rfl
  have HO := Lib.hid (((R3.out.set_ 0 (.int .u64 B)).set_ 1 (.int .i64 1)).set_ 2 (sv D))
  have o0 := HO.out.cell 0
  have o1 := HO.out.cell 1
  have o2 := HO.out.cell 2
  simp at o0 o1 o2
  go_wp2
  refine bodyPost_ret (v := .agg #[.int .u64 B, .int .i64 1, sv D]) (by simp [results, Try.results45, go_sem, o0, o1, o2]) rfl ⟨rfl, ?_⟩
  exact bs (bs (bs HB3.out (Nat.le_succ _) _) (Nat.le_succ _) _) (Nat.le_succ _) _

set_option maxRecDepth 100000 in
set_option maxHeartbeats 400000 in
theorem nrone_three2 (A : Option Addr) (n cap bn f len : Nat) (T : List UInt8) (L : List CL) (w : World) (hA : CR w A L) (hl : L.length = n) (hR : CRt L) (hbn : bn < 576460752303423488) (hf : f < 18446744073709551616) (hW : ¬ cWhole f len bn) (hs : (cAt L bn).s = 1) :
    Calls Try.prog 45 #[.slice A n cap, vu bn, .agg #[.int .i64 3, vu f, vu len, sv T]] w fun e w' => e = .returned (cv (cF 3 (cG 3 T) f len (cAt L bn))) ∧ Below w.heap.size w w' := by
  have HAt : Hid (∀ W, Below w.heap.size w W → Calls Try.prog 59 #[.slice A n cap, .int .u64 (bn : Int)] W fun e w' => e = .returned (.agg #[.int .u64 (bn : Int), .int .i64 (cAt L bn).s, sv (cAt L bn).d]) ∧ Below W.heap.size W w') := Lib.hid fun W hb => by
    have h := nrat_any A n cap bn L W (hA.later hb) hl (by have := hR.1; omega)
    have e : cv (cAt L bn) = .agg #[.int .u64 (bn : Int), .int .i64 (cAt L bn).s, sv (cAt L bn).d] := by rw [cv, cat_n]
    rwa [e] at h
  have HD : Hid (∀ W, Below w.heap.size w W → Calls Try.prog 60 #[.slice A n cap, .int .u64 (bn : Int), .agg #[.int .i64 3, vu f, vu len, sv T]] W fun e w' => e = .returned (sv (cmix (cG 3 T) f len (cAt L bn))) ∧ Below W.heap.size W w') := Lib.hid fun W hb => nrdata_any A n cap bn f len 3 T L W (hA.later hb) hl hR hbn hf (fun h => absurd h (by decide))
  have HWh : Hid (∀ W, Calls Try.prog 61 #[.int .u64 (bn : Int), .agg #[vu f, vu len]] W fun e w' => e = .returned (.bool false) ∧ Below W.heap.size W w') := Lib.hid fun W => by
    have h := nrwhole_any bn f len W hbn hf
    rwa [decide_eq_false hW] at h
  have e : cv (cF 3 (cG 3 T) f len (cAt L bn)) = .agg #[.int .u64 (bn : Int), .int .i64 1, sv (cmix (cG 3 T) f len (cAt L bn))] := by
    rw [cG_zero (show (3 : Int) ≠ 1 by decide)]; unfold cF
    simp [cat_n, hs, hW]
  rw [e]
  clear e
  generalize cmix (cG 3 T) f len (cAt L bn) = D at *
  rw [hs] at HAt
  generalize (cAt L bn).d = od at *
  clear hA hl hR hbn hf
  show Calls Try.prog 45 #[.slice A n cap, .int .u64 (bn : Int), .agg #[.int .i64 3, vu f, vu len, sv T]] w fun e w' => e = .returned (.agg #[.int .u64 (bn : Int), .int .i64 1, sv D]) ∧ Below w.heap.size w w'
  generalize (bn : Int) = B at *
  go_enter Try.func45, Try.ntmps45
  go_wp2_with fail
  refine (HAt.out _ (ba (ba (Below.refl _ _) _) _)).mono ?_
  rintro e w1 ⟨rfl, hb1⟩
  have C1 : Hid (Blk (w1.alloc (.cells #[.int .u64 B, .int .i64 1, sv od] 45)) w.heap.size 34 #[.int .i64 3, vu f, vu len, sv T]) := Lib.hid ((((Blk.new w _ _).alloc _).below hb1).alloc _)
  have R1 : Hid (Blk (w1.alloc (.cells #[.int .u64 B, .int .i64 1, sv od] 45)) (w.heap.size + 1) 45 #[vu 0, .int .i64 0, sv []]) := Lib.hid (((Blk.newAt (w := w.alloc (.cells #[.int .i64 3, vu f, vu len, sv T] 34)) (by simp) _ _).below hb1).alloc _)
  have O1 : Hid (Blk (w1.alloc (.cells #[.int .u64 B, .int .i64 1, sv od] 45)) w1.heap.size 45 #[.int .u64 B, .int .i64 1, sv od]) := Lib.hid (Blk.new _ _ _)
  have HB1 : Hid (Below w.heap.size w (w1.alloc (.cells #[.int .u64 B, .int .i64 1, sv od] 45))) := Lib.hid (ba (bt (ba (ba (Below.refl w.heap.size w) _) _) hb1) _)
  clear hb1
  obtain ⟨q10, r10⟩ := C1.out.at_ (i := 0) (v := .int .i64 3) rfl
  obtain ⟨q11, r11⟩ := C1.out.at_ (i := 1) (v := vu f) rfl
  obtain ⟨q12, r12⟩ := C1.out.at_ (i := 2) (v := vu len) rfl
  obtain ⟨q13, r13⟩ := C1.out.at_ (i := 3) (v := sv T) rfl
  go_wp2_with fail
  refine (HWh.out _).mono ?_
  rintro e w2 ⟨rfl, hb2⟩
  have C2 := Lib.hid (C1.out.below hb2)
  have R2 := Lib.hid (R1.out.below hb2)
  have O2 := Lib.hid (O1.out.below hb2)
  have HB2 := Lib.hid (bt HB1.out hb2)
  clear hb2
  obtain ⟨q20, r20⟩ := C2.out.at_ (i := 0) (v := .int .i64 3) rfl
  obtain ⟨q21, r21⟩ := C2.out.at_ (i := 1) (v := vu f) rfl
  obtain ⟨q22, r22⟩ := C2.out.at_ (i := 2) (v := vu len) rfl
  obtain ⟨q23, r23⟩ := C2.out.at_ (i := 3) (v := sv T) rfl
  obtain ⟨p20, s20⟩ := R2.out.at_ (i := 0) (v := vu 0) rfl
  obtain ⟨p21, s21⟩ := R2.out.at_ (i := 1) (v := .int .i64 0) rfl
  obtain ⟨p22, s22⟩ := R2.out.at_ (i := 2) (v := sv []) rfl
  obtain ⟨x20, y20⟩ := O2.out.at_ (i := 0) (v := .int .u64 B) rfl
  obtain ⟨x21, y21⟩ := O2.out.at_ (i := 1) (v := .int .i64 1) rfl
  obtain ⟨x22, y22⟩ := O2.out.at_ (i := 2) (v := sv od) rfl
  go_wp2_with fail
  refine (HD.out _ HB2.out).mono ?_
  rintro e w3 ⟨rfl, hb3⟩
  have C3 := Lib.hid (C2.out.below hb3)
  have R3 := Lib.hid (R2.out.below hb3)
  have O3 := Lib.hid (O2.out.below hb3)
  have HB3 := Lib.hid (bt HB2.out hb3)
  clear hb3
  obtain ⟨q30, r30⟩ := C3.out.at_ (i := 0) (v := .int .i64 3) rfl
  obtain ⟨q31, r31⟩ := C3.out.at_ (i := 1) (v := vu f) rfl
  obtain ⟨q32, r32⟩ := C3.out.at_ (i := 2) (v := vu len) rfl
  obtain ⟨q33, r33⟩ := C3.out.at_ (i := 3) (v := sv T) rfl
  obtain ⟨p30, s30⟩ := R3.out.at_ (i := 0) (v := vu 0) rfl
  obtain ⟨p31, s31⟩ := R3.out.at_ (i := 1) (v := .int .i64 0) rfl
  obtain ⟨p32, s32⟩ := R3.out.at_ (i := 2) (v := sv []) rfl
  obtain ⟨x30, y30⟩ := O3.out.at_ (i := 0) (v := .int .u64 B) rfl
  obtain ⟨x31, y31⟩ := O3.out.at_ (i := 1) (v := .int .i64 1) rfl
  obtain ⟨x32, y32⟩ := O3.out.at_ (i := 2) (v := sv od) rfl
  have HO := Lib.hid (((R3.out.set_ 0 (.int .u64 B)).set_ 1 (.int .i64 1)).set_ 2 (sv D))
  have o0 := HO.out.cell 0
  have o1 := HO.out.cell 1
  have o2 := HO.out.cell 2
  simp at o0 o1 o2
  go_wp2
  refine bodyPost_ret (v := .agg #[.int .u64 B, .int .i64 1, sv D]) (by simp [results, Try.results45, go_sem, o0, o1, o2]) rfl ⟨rfl, ?_⟩
  exact bs (bs (bs HB3.out (Nat.le_succ _) _) (Nat.le_succ _) _) (Nat.le_succ _) _

set_option maxRecDepth 100000 in
set_option maxHeartbeats 400000 in
theorem nrone_two2 (A : Option Addr) (n cap bn f len : Nat) (T : List UInt8) (L : List CL) (w : World) (hA : CR w A L) (hl : L.length = n) (hR : CRt L) (hbn : bn < 576460752303423488) (hf : f < 18446744073709551616) (hW : ¬ cWhole f len bn) (hs : ¬ (cAt L bn).s = 1) :
    Calls Try.prog 45 #[.slice A n cap, vu bn, .agg #[.int .i64 2, vu f, vu len, sv T]] w fun e w' => e = .returned (cv (cF 2 (cG 2 T) f len (cAt L bn))) ∧ Below w.heap.size w w' := by
  have HAt : Hid (∀ W, Below w.heap.size w W → Calls Try.prog 59 #[.slice A n cap, .int .u64 (bn : Int)] W fun e w' => e = .returned (.agg #[.int .u64 (bn : Int), .int .i64 (cAt L bn).s, sv (cAt L bn).d]) ∧ Below W.heap.size W w') := Lib.hid fun W hb => by
    have h := nrat_any A n cap bn L W (hA.later hb) hl (by have := hR.1; omega)
    have e : cv (cAt L bn) = .agg #[.int .u64 (bn : Int), .int .i64 (cAt L bn).s, sv (cAt L bn).d] := by rw [cv, cat_n]
    rwa [e] at h
  have HWh : Hid (∀ W, Calls Try.prog 61 #[.int .u64 (bn : Int), .agg #[vu f, vu len]] W fun e w' => e = .returned (.bool false) ∧ Below W.heap.size W w') := Lib.hid fun W => by
    have h := nrwhole_any bn f len W hbn hf
    rwa [decide_eq_false hW] at h
  have e : cv (cF 2 (cG 2 T) f len (cAt L bn)) = .agg #[.int .u64 (bn : Int), .int .i64 (cAt L bn).s, sv (cAt L bn).d] := by
    rw [cG_zero (show (2 : Int) ≠ 1 by decide)]; unfold cF
    simp [cat_n, hs, hW]
  rw [e]
  clear e
  generalize (cAt L bn).s = os at *
  generalize (cAt L bn).d = od at *
  have h0d : decide (os = 1) = false := decide_eq_false hs
  have h0e : (os == 1) = false := by simpa using hs
  have h0f : (os != 1) = true := by simp [bne, h0e]
  clear hA hl hR hbn hf
  show Calls Try.prog 45 #[.slice A n cap, .int .u64 (bn : Int), .agg #[.int .i64 2, vu f, vu len, sv T]] w fun e w' => e = .returned (.agg #[.int .u64 (bn : Int), .int .i64 os, sv od]) ∧ Below w.heap.size w w'
  generalize (bn : Int) = B at *
  go_enter Try.func45, Try.ntmps45
  go_wp2_with fail
  refine (HAt.out _ (ba (ba (Below.refl _ _) _) _)).mono ?_
  rintro e w1 ⟨rfl, hb1⟩
  have C1 : Hid (Blk (w1.alloc (.cells #[.int .u64 B, .int .i64 os, sv od] 45)) w.heap.size 34 #[.int .i64 2, vu f, vu len, sv T]) := Lib.hid ((((Blk.new w _ _).alloc _).below hb1).alloc _)
  have R1 : Hid (Blk (w1.alloc (.cells #[.int .u64 B, .int .i64 os, sv od] 45)) (w.heap.size + 1) 45 #[vu 0, .int .i64 0, sv []]) := Lib.hid (((Blk.newAt (w := w.alloc (.cells #[.int .i64 2, vu f, vu len, sv T] 34)) (by simp) _ _).below hb1).alloc _)
  have O1 : Hid (Blk (w1.alloc (.cells #[.int .u64 B, .int .i64 os, sv od] 45)) w1.heap.size 45 #[.int .u64 B, .int .i64 os, sv od]) := Lib.hid (Blk.new _ _ _)
  have HB1 : Hid (Below w.heap.size w (w1.alloc (.cells #[.int .u64 B, .int .i64 os, sv od] 45))) := Lib.hid (ba (bt (ba (ba (Below.refl w.heap.size w) _) _) hb1) _)
  clear hb1
  obtain ⟨q10, r10⟩ := C1.out.at_ (i := 0) (v := .int .i64 2) rfl
  obtain ⟨q11, r11⟩ := C1.out.at_ (i := 1) (v := vu f) rfl
  obtain ⟨q12, r12⟩ := C1.out.at_ (i := 2) (v := vu len) rfl
  obtain ⟨q13, r13⟩ := C1.out.at_ (i := 3) (v := sv T) rfl
  go_wp2_with fail
  refine (HWh.out _).mono ?_
  rintro e w2 ⟨rfl, hb2⟩
  have C2 := Lib.hid (C1.out.below hb2)
  have R2 := Lib.hid (R1.out.below hb2)
  have O2 := Lib.hid (O1.out.below hb2)
  have HB2 := Lib.hid (bt HB1.out hb2)
  clear hb2
  obtain ⟨q20, r20⟩ := C2.out.at_ (i := 0) (v := .int .i64 2) rfl
  obtain ⟨q21, r21⟩ := C2.out.at_ (i := 1) (v := vu f) rfl
  obtain ⟨q22, r22⟩ := C2.out.at_ (i := 2) (v := vu len) rfl
  obtain ⟨q23, r23⟩ := C2.out.at_ (i := 3) (v := sv T) rfl
  obtain ⟨p20, s20⟩ := R2.out.at_ (i := 0) (v := vu 0) rfl
  obtain ⟨p21, s21⟩ := R2.out.at_ (i := 1) (v := .int .i64 0) rfl
  obtain ⟨p22, s22⟩ := R2.out.at_ (i := 2) (v := sv []) rfl
  obtain ⟨x20, y20⟩ := O2.out.at_ (i := 0) (v := .int .u64 B) rfl
  obtain ⟨x21, y21⟩ := O2.out.at_ (i := 1) (v := .int .i64 os) rfl
  obtain ⟨x22, y22⟩ := O2.out.at_ (i := 2) (v := sv od) rfl
  have HO := Lib.hid (((R2.out.set_ 0 (.int .u64 B)).set_ 1 (.int .i64 os)).set_ 2 (sv od))
  have o0 := HO.out.cell 0
  have o1 := HO.out.cell 1
  have o2 := HO.out.cell 2
  simp at o0 o1 o2
  go_wp2
  refine bodyPost_ret (v := .agg #[.int .u64 B, .int .i64 os, sv od]) (by simp [results, Try.results45, go_sem, o0, o1, o2]) rfl ⟨rfl, ?_⟩
  exact bs (bs (bs HB2.out (Nat.le_succ _) _) (Nat.le_succ _) _) (Nat.le_succ _) _

set_option maxRecDepth 100000 in
set_option maxHeartbeats 400000 in
theorem nrone_three3 (A : Option Addr) (n cap bn f len : Nat) (T : List UInt8) (L : List CL) (w : World) (hA : CR w A L) (hl : L.length = n) (hR : CRt L) (hbn : bn < 576460752303423488) (hf : f < 18446744073709551616) (hW : ¬ cWhole f len bn) (hs : ¬ (cAt L bn).s = 1) :
    Calls Try.prog 45 #[.slice A n cap, vu bn, .agg #[.int .i64 3, vu f, vu len, sv T]] w fun e w' => e = .returned (cv (cF 3 (cG 3 T) f len (cAt L bn))) ∧ Below w.heap.size w w' := by
  have HAt : Hid (∀ W, Below w.heap.size w W → Calls Try.prog 59 #[.slice A n cap, .int .u64 (bn : Int)] W fun e w' => e = .returned (.agg #[.int .u64 (bn : Int), .int .i64 (cAt L bn).s, sv (cAt L bn).d]) ∧ Below W.heap.size W w') := Lib.hid fun W hb => by
    have h := nrat_any A n cap bn L W (hA.later hb) hl (by have := hR.1; omega)
    have e : cv (cAt L bn) = .agg #[.int .u64 (bn : Int), .int .i64 (cAt L bn).s, sv (cAt L bn).d] := by rw [cv, cat_n]
    rwa [e] at h
  have HWh : Hid (∀ W, Calls Try.prog 61 #[.int .u64 (bn : Int), .agg #[vu f, vu len]] W fun e w' => e = .returned (.bool false) ∧ Below W.heap.size W w') := Lib.hid fun W => by
    have h := nrwhole_any bn f len W hbn hf
    rwa [decide_eq_false hW] at h
  have e : cv (cF 3 (cG 3 T) f len (cAt L bn)) = .agg #[.int .u64 (bn : Int), .int .i64 (cAt L bn).s, sv (cAt L bn).d] := by
    rw [cG_zero (show (3 : Int) ≠ 1 by decide)]; unfold cF
    simp [cat_n, hs, hW]
  rw [e]
  clear e
  generalize (cAt L bn).s = os at *
  generalize (cAt L bn).d = od at *
  have h0d : decide (os = 1) = false := decide_eq_false hs
  have h0e : (os == 1) = false := by simpa using hs
  have h0f : (os != 1) = true := by simp [bne, h0e]
  clear hA hl hR hbn hf
  show Calls Try.prog 45 #[.slice A n cap, .int .u64 (bn : Int), .agg #[.int .i64 3, vu f, vu len, sv T]] w fun e w' => e = .returned (.agg #[.int .u64 (bn : Int), .int .i64 os, sv od]) ∧ Below w.heap.size w w'
  generalize (bn : Int) = B at *
  go_enter Try.func45, Try.ntmps45
  go_wp2_with fail
  refine (HAt.out _ (ba (ba (Below.refl _ _) _) _)).mono ?_
  rintro e w1 ⟨rfl, hb1⟩
  have C1 : Hid (Blk (w1.alloc (.cells #[.int .u64 B, .int .i64 os, sv od] 45)) w.heap.size 34 #[.int .i64 3, vu f, vu len, sv T]) := Lib.hid ((((Blk.new w _ _).alloc _).below hb1).alloc _)
  have R1 : Hid (Blk (w1.alloc (.cells #[.int .u64 B, .int .i64 os, sv od] 45)) (w.heap.size + 1) 45 #[vu 0, .int .i64 0, sv []]) := Lib.hid (((Blk.newAt (w := w.alloc (.cells #[.int .i64 3, vu f, vu len, sv T] 34)) (by simp) _ _).below hb1).alloc _)
  have O1 : Hid (Blk (w1.alloc (.cells #[.int .u64 B, .int .i64 os, sv od] 45)) w1.heap.size 45 #[.int .u64 B, .int .i64 os, sv od]) := Lib.hid (Blk.new _ _ _)
  have HB1 : Hid (Below w.heap.size w (w1.alloc (.cells #[.int .u64 B, .int .i64 os, sv od] 45))) := Lib.hid (ba (bt (ba (ba (Below.refl w.heap.size w) _) _) hb1) _)
  clear hb1
  obtain ⟨q10, r10⟩ := C1.out.at_ (i := 0) (v := .int .i64 3) rfl
  obtain ⟨q11, r11⟩ := C1.out.at_ (i := 1) (v := vu f) rfl
  obtain ⟨q12, r12⟩ := C1.out.at_ (i := 2) (v := vu len) rfl
  obtain ⟨q13, r13⟩ := C1.out.at_ (i := 3) (v := sv T) rfl
  go_wp2_with fail
  refine (HWh.out _).mono ?_
  rintro e w2 ⟨rfl, hb2⟩
  have C2 := Lib.hid (C1.out.below hb2)
  have R2 := Lib.hid (R1.out.below hb2)
  have O2 := Lib.hid (O1.out.below hb2)
  have HB2 := Lib.hid (bt HB1.out hb2)
  clear hb2
  obtain ⟨q20, r20⟩ := C2.out.at_ (i := 0) (v := .int .i64 3) rfl
  obtain ⟨q21, r21⟩ := C2.out.at_ (i := 1) (v := vu f) rfl
  obtain ⟨q22, r22⟩ := C2.out.at_ (i := 2) (v := vu len) rfl
  obtain ⟨q23, r23⟩ := C2.out.at_ (i := 3) (v := sv T) rfl
  obtain ⟨p20, s20⟩ := R2.out.at_ (i := 0) (v := vu 0) rfl
  obtain ⟨p21, s21⟩ := R2.out.at_ (i := 1) (v := .int .i64 0) rfl
  obtain ⟨p22, s22⟩ := R2.out.at_ (i := 2) (v := sv []) rfl
  obtain ⟨x20, y20⟩ := O2.out.at_ (i := 0) (v := .int .u64 B) rfl
  obtain ⟨x21, y21⟩ := O2.out.at_ (i := 1) (v := .int .i64 os) rfl
  obtain ⟨x22, y22⟩ := O2.out.at_ (i := 2) (v := sv od) rfl
  have HO := Lib.hid (((R2.out.set_ 0 (.int .u64 B)).set_ 1 (.int .i64 os)).set_ 2 (sv od))
  have o0 := HO.out.cell 0
  have o1 := HO.out.cell 1
  have o2 := HO.out.cell 2
  simp at o0 o1 o2
  go_wp2
  refine bodyPost_ret (v := .agg #[.int .u64 B, .int .i64 os, sv od]) (by simp [results, Try.results45, go_sem, o0, o1, o2]) rfl ⟨rfl, ?_⟩
  exact bs (bs (bs HB2.out (Nat.le_succ _) _) (Nat.le_succ _) _) (Nat.le_succ _) _

/-- The reference's one, of any change. -/
theorem nrone_any (A : Option Addr) (n cap bn f len wh : Nat) (T : List UInt8) (L : List CL) (w : World) (hA : CR w A L) (hl : L.length = n) (hR : CRt L) (hbn : bn < 576460752303423488) (hf : f < 18446744073709551616) (hw : wh = 1 ∨ wh = 2 ∨ wh = 3 ∨ wh = 4) (hT : wh = 1 → T.length = len) :
    Calls Try.prog 45 #[.slice A n cap, vu bn, .agg #[.int .i64 wh, vu f, vu len, sv T]] w fun e w' => e = .returned (cv (cF wh (cG wh T) f len (cAt L bn))) ∧ Below w.heap.size w w' := by
  rcases hw with rfl | rfl | rfl | rfl
  · exact nrone_one A n cap bn f len T L w hA hl hR hbn hf (hT rfl)
  · by_cases hW : cWhole f len bn
    · exact nrone_two A n cap bn f len T L w hA hl hR hbn hf hW
    · by_cases hs : (cAt L bn).s = 1
      · exact nrone_two1 A n cap bn f len T L w hA hl hR hbn hf hW hs
      · exact nrone_two2 A n cap bn f len T L w hA hl hR hbn hf hW hs
  · by_cases hW : cWhole f len bn
    · by_cases hs : (cAt L bn).s = 0
      · exact nrone_three0 A n cap bn f len T L w hA hl hR hbn hf hW hs
      · exact nrone_three1 A n cap bn f len T L w hA hl hR hbn hf hW hs
    · by_cases hs : (cAt L bn).s = 1
      · exact nrone_three2 A n cap bn f len T L w hA hl hR hbn hf hW hs
      · exact nrone_three3 A n cap bn f len T L w hA hl hR hbn hf hW hs
  · by_cases hs : (cAt L bn).s = 0
    · exact nrone_four0 A n cap bn f len T L w hA hl hR hbn hf hs
    · exact nrone_four A n cap bn f len T L w hA hl hR hbn hf hs
end Go.Proofs.Ytbecambkjmheiaa
