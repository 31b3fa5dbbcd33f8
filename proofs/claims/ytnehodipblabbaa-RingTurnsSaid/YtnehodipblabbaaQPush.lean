/- The contracts of Push. -/
import Derived.Test.YtnehodipblabbaaQRight
import Derived.Test.YtnehodipblabbaaQNew
import Derived.Test.YtnehodipblabbaaQClone
import Derived.Deep.DeepCutAuto
import Derived.Deep.CutRange
namespace Go.Proofs.Ytnehodipblabbaa
open Go.RowKit

abbrev qtwo (w : World) (A : Option Addr) (n c : Nat) (f m : Int) : World := (qbox w A n c f m).alloc (.cells (qcs none 0 0 0 0) 24)
theorem qtwo_below (w : World) (A : Option Addr) (n c : Nat) (f m : Int) : Below w.heap.size w (qtwo w A n c f m) := ba (qbox_below w A n c f m) _
theorem qtwo_blk (w : World) (A : Option Addr) (n c : Nat) (f m : Int) : Blk (qtwo w A n c f m) w.heap.size 24 (qcs A n c f m) := (qbox_blk w A n c f m).alloc _
theorem qtwo_out (w : World) (A : Option Addr) (n c : Nat) (f m : Int) : Blk (qtwo w A n c f m) (w.heap.size + 1) 24 (qcs none 0 0 0 0) := Blk.newAt (by simp) _ _

set_option maxRecDepth 100000 in
set_option maxHeartbeats 4000000 in
theorem push_no (A : Option Addr) (n c : Nat) (f m : Int) (s : List UInt8) (r : Bool) (ee : Int) (w : World)
    (HR : Hid (∀ W, Below w.heap.size w W → Calls Try.prog 8 #[qv A n c f m] W fun e w' => e = .returned (.bool r) ∧ Below W.heap.size W w'))
    (P : (r = false ∧ ee = 1) ∨ (r = true ∧ m = (n : Int) ∧ ee = 6)) :
    Calls Try.prog 13 #[qv A n c f m, sv s] w fun e w' => e = .returned (.tuple #[qv none 0 0 0 0, .int .i64 ee]) ∧ Below w.heap.size w w' := by
  have HB := Lib.hid (qtwo_below w A n c f m)
  have HK := Lib.hid (qtwo_blk w A n c f m)
  have HO := Lib.hid (qtwo_out w A n c f m)
  rcases P with ⟨rfl, rfl⟩ | ⟨rfl, rfl, rfl⟩
  all_goals
    go_enter Try.func13, Try.ntmps13
    go_wp2_with fail
    refine (HR.out _ HB.out).mono ?_
    rintro e1 w1 ⟨rfl, hb1⟩
    have B1 := Lib.hid (bt HB.out hb1)
    have O1 := Lib.hid (HO.out.below hb1)
    obtain ⟨⟨q0, q1, q2⟩, _⟩ := qcells (HK.out.below hb1)
    obtain ⟨⟨o0, o1, o2⟩, f0, f1, f2⟩ := qcells O1.out
    clear hb1
    go_wp2
    refine bodyPost_ret (ring_result rfl (((O1.out.set_ 0 _).set_ 1 _).set_ 2 _)) rfl ?_
    exact ⟨rfl, bs (bs (bs B1.out (by omega) _) (by omega) _) (by omega) _⟩

theorem push_bad (A : Option Addr) (n c : Nat) (f m : Int) (L : List (List UInt8)) (s : List UInt8) (w : World) (hM : QM w A n c L) (hr : qright L f m = false) :
    Calls Try.prog 13 #[qv A n c f m, sv s] w fun e w' => e = .returned (.tuple #[qv none 0 0 0 0, .int .i64 1]) ∧ Below w.heap.size w w' :=
  push_no A n c f m s false 1 w (Lib.hid fun W hb => by have := qright_any A n c f m L W (hM.later hb); rwa [hr] at this) (.inl ⟨rfl, rfl⟩)
theorem push_full (A : Option Addr) (n c f : Nat) (L : List (List UInt8)) (s : List UInt8) (w : World) (hM : QM w A n c L) (hr : QR L f n) :
    Calls Try.prog 13 #[qv A n c (f : Int) (n : Int), sv s] w fun e w' => e = .returned (.tuple #[qv none 0 0 0 0, .int .i64 6]) ∧ Below w.heap.size w w' :=
  push_no A n c f n s true 6 w (Lib.hid fun W hb => by have := qright_any A n c f n L W (hM.later hb); rwa [qright_mk hr] at this) (.inr ⟨rfl, rfl, rfl⟩)

set_option maxRecDepth 100000 in
set_option maxHeartbeats 4000000 in
theorem push_walk (A : Option Addr) (n c f m p : Nat) (L : List (List UInt8)) (s : List UInt8) (w : World)
    (HR : Hid (∀ W, Below w.heap.size w W → Calls Try.prog 8 #[qv A n c (f : Int) (m : Int)] W fun e w' => e = .returned (.bool true) ∧ Below W.heap.size W w'))
    (HC : Hid (∀ W, Below w.heap.size w W → Calls Try.prog 24 #[.slice A n c] W fun e w' => ∃ g c', e = .returned (.slice (some ⟨g, 0, none⟩) n c') ∧ W.heap.size ≤ g ∧ QS w' g n c' L ∧ Below W.heap.size W w'))
    (HS : Hid (∀ W, Calls Try.prog 25 #[qv A n c (f : Int) (m : Int), .int .i64 (m : Int)] W fun e w' => e = .returned (.int .i64 (p : Int)) ∧ Below W.heap.size W w'))
    (hp : p < n) (hm : m < n) (hn : n ≤ 70) :
    Calls Try.prog 13 #[qv A n c (f : Int) (m : Int), sv s] w fun e w' => ∃ g c', e = .returned (.tuple #[qv (some ⟨g, 0, none⟩) n c' (f : Int) ((m + 1 : Nat) : Int), .int .i64 0]) ∧ QS w' g n c' (L.set p s) ∧ w.heap.size < g ∧ Below w.heap.size w w' := by
  have HB := Lib.hid (qtwo_below w A n c (f : Int) (m : Int))
  have HK := Lib.hid (qtwo_blk w A n c (f : Int) (m : Int))
  have HO := Lib.hid (qtwo_out w A n c (f : Int) (m : Int))
  have i0 : ((m : Int) == (n : Int)) = false := by simp only [beq_eq_false_iff_ne]; omega
  have i1 : (0 : Int) ≤ (p : Int) := by omega
  have i2 : (p : Int) < (n : Int) := by omega
  have i3 : (m : Int) + 1 ≤ 70 := by omega
  go_enter Try.func13, Try.ntmps13
  go_wp2_with fail
  refine (HR.out _ HB.out).mono ?_
  rintro e1 w1 ⟨rfl, hb1⟩
  have B1 := Lib.hid (bt HB.out hb1)
  have O1 := Lib.hid (HO.out.below hb1)
  have K1 := Lib.hid (HK.out.below hb1)
  clear hb1
  obtain ⟨⟨q0, q1, q2⟩, _⟩ := qcells K1.out
  go_wp2_with fail
  refine (HC.out _ B1.out).mono ?_
  rintro e2 w2 ⟨g, c2, rfl, hg, hrow, hb2⟩
  have B2 := Lib.hid (bt B1.out hb2)
  have O2 := Lib.hid (O1.out.below hb2)
  have K2 := Lib.hid (K1.out.below hb2)
  have R2 := Lib.hid hrow
  have HG : Hid (w.heap.size + 1 < g) := Lib.hid (Nat.lt_of_lt_of_le O1.out.lt hg)
  clear hb2 hrow hg q0 q1 q2
  obtain ⟨⟨q0, q1, q2⟩, _⟩ := qcells K2.out
  go_wp2_with fail
  refine (HS.out _).mono ?_
  rintro e3 w3 ⟨rfl, hb3⟩
  have R3 := R2.out.below hb3
  obtain ⟨c0, c1⟩ := R3.cell p hp
  have hgz := HG.out
  have B4 := Lib.hid (bs (bt B2.out hb3) (b := g) (o := p) (by omega) (sv s))
  have O4 := Lib.hid ((O2.out.below hb3).far (p := ⟨g, p, none⟩) (by simp; omega) (sv s))
  have K4 := Lib.hid ((K2.out.below hb3).far (p := ⟨g, p, none⟩) (by simp; omega) (sv s))
  have R4 := Lib.hid (R3.set_ p s)
  clear hb3 R3 q0 q1 q2 hgz
  go_upto_region 7 with fail
  generalize w3.setCell ⟨g, p, none⟩ (sv s) = w4 at *
  obtain ⟨⟨q0, q1, q2⟩, _⟩ := qcells K4.out
  obtain ⟨⟨o0, o1, o2⟩, f0, f1, f2⟩ := qcells O4.out
  go_wp2
  refine bodyPost_ret (ring_result rfl (((O4.out.set_ 0 _).set_ 1 _).set_ 2 _)) rfl ?_
  have hgz := HG.out
  exact ⟨g, c2, by simp, ((R4.out.far (by simp; omega) _).far (by simp; omega) _).far (by simp; omega) _, by omega, bs (bs (bs B4.out (by omega) _) (by omega) _) (by omega) _⟩

/-- Push, to a ring that may be and is not full. -/
theorem push_yes (A : Option Addr) (n c f m : Nat) (L : List (List UInt8)) (s : List UInt8) (w : World) (hM : QM w A n c L) (hr : QR L f m) (hm : m < n) :
    Calls Try.prog 13 #[qv A n c (f : Int) (m : Int), sv s] w fun e w' => ∃ g c', e = .returned (.tuple #[qv (some ⟨g, 0, none⟩) n c' (f : Int) ((m + 1 : Nat) : Int), .int .i64 0]) ∧ QS w' g n c' (qpush L f m s) ∧ w.heap.size < g ∧ Below w.heap.size w w' := by
  have hl := hM.len
  have h1 := hr.lo
  have h2 := hr.hi
  have h3 := hr.start
  have hfew := hM.few
  unfold qpush
  rw [hl] at h1 h2 h3 ⊢
  refine push_walk A n c f m (qs n f m) L s w (Lib.hid fun W hb => by have := qright_any A n c f m L W (hM.later hb); rwa [qright_mk hr] at this) (Lib.hid fun W hb => ?_) (Lib.hid fun W => slot_any A n c f m m W h1 hfew (by omega) (by omega)) (qs_lt h1) hm hfew
  refine (qclone_any A c n L W (hM.row.later hb) hl hM.nil (by omega)).mono ?_
  rintro e w' ⟨A', c', rfl, hown, hb2⟩
  obtain ⟨g, rfl, hg, hrow⟩ := QS.of_own hown h1 hl
  exact ⟨g, c', rfl, hg, hrow, hb2⟩
end Go.Proofs.Ytnehodipblabbaa
