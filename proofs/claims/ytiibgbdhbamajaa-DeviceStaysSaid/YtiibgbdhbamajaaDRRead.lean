/- The contracts of the reference's Read and Write. -/
import Derived.Test.YtiibgbdhbamajaaDClone
namespace Go.Proofs.Ytiibgbdhbamajaa
open Go.RowKit

set_option maxRecDepth 100000 in
set_option maxHeartbeats 4000000 in
theorem rread_any (A B : Option Addr) (c d n m : Nat) (S : List (List UInt8)) (C : List PutL) (k : Nat) (w : World) (hA : SR w A S) (hB : PR w B C) (hn : S.length = n) (hm : C.length = m) (hk : k < n) (_ : n ≤ 65536) (hm2 : m ≤ 65536) :
    Calls Try.prog 17 #[dv A n c B m d, .int .i64 (k : Int)] w fun e w' => e = .returned (sv (readD S C k)) ∧ Below w.heap.size w w' := by
  obtain ⟨g0, off0, rfl, s0⟩ := (hA.later (ba (Below.refl w.heap.size w) (.cells #[.slice A n c, .slice B m d] 25))) k (by rw [hn]; exact hk)
  have HB := Lib.hid hB
  have HT := Lib.hid (readD_take S C k)
  have HZ : Hid (S.getD k [] = readD S (C.take 0) k) := Lib.hid rfl
  have HM := Lib.hid hm
  have HE : Hid (readD S (C.take m) k = readD S C k) := Lib.hid (by rw [← hm, List.take_length])
  generalize readD S C k = R at HE ⊢
  generalize S.getD k [] = x0 at s0 HZ
  have i0 : (0 : Int) ≤ (k : Int) := by omega
  have i1 : (k : Int) < (n : Int) := by omega
  clear hA hB hn hm
  go_enter Try.func17, Try.ntmps17
  go_wp2_with fail
  go_loopw [5, 16] (fun ov iv wr => ∃ j : Nat, j ≤ m ∧ iv = .int .i64 j ∧ ov = sv (readD S (C.take j) k) ∧ Below w.heap.size w wr) (fun _ i _ => m - (intOf i).toNat)
  case atStart => exact ⟨0, Nat.zero_le _, rfl, by rw [HZ.out], ba (Below.refl _ _) _⟩
  case round =>
    obtain ⟨j, hj, rfl, rfl, hb⟩ := hrel
    by_cases hlt : j < m
    · obtain ⟨g, off, rfl, p0, p1⟩ := (HB.out.later hb) j (by rw [HM.out]; exact hlt)
      have HTj := Lib.hid (HT.out j (by rw [HM.out]; exact hlt))
      generalize C.getD j (0, []) = x at p0 p1 HTj
      obtain ⟨xk, xs⟩ := x
      simp only at p0 p1
      have j0 : (0 : Int) ≤ (j : Int) := by omega
      have j1 : (j : Int) < (m : Int) := by omega
      by_cases hx : xk = (k : Int)
      · have HT2 : Hid (readD S (C.take (j + 1)) k = xs) := Lib.hid (by rw [HTj.out, if_pos hx])
        subst hx
        clear HTj
        go_wp2
        exact ⟨⟨j + 1, by omega, by go_num, by rw [HT2.out], ba hb _⟩, by simp [intOf]; omega⟩
      · have HT2 : Hid (readD S (C.take (j + 1)) k = readD S (C.take j) k) := Lib.hid (by rw [HTj.out, if_neg hx])
        have hx2 : (xk == (k : Int)) = false := by simpa using hx
        clear HTj
        go_wp2
        exact ⟨⟨j + 1, by omega, by go_num, by rw [HT2.out], ba hb _⟩, by simp [intOf]; omega⟩
    · obtain rfl : j = m := by omega
      rw [HE.out]
      go_wp2
      go_ret
      exact ⟨rfl, hb⟩

end Go.Proofs.Ytiibgbdhbamajaa
