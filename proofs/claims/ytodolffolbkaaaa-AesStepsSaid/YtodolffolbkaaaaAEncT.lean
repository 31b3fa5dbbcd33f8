/- The contract of Encrypt. -/
import Derived.Test.YtodolffolbkaaaaAEncr
namespace Go.Proofs.Ytodolffolbkaaaa
open Go.RowKit

theorem encL_len (key l : List UInt8) (h : l.length = 16) : (encL key l).length = 16 := encN_len _ _ _ h _

set_option maxRecDepth 100000 in
set_option maxHeartbeats 1000000 in
theorem enc_yes (key l : List UInt8) (w : World) (hk : key.length = 16 ∨ key.length = 32) (hl : l.length = 16) :
    Calls Try.prog 20 #[.string ⟨key.toArray⟩, .string ⟨l.toArray⟩] w fun e w' => e = .returned (.tuple #[.string ⟨(encL key l).toArray⟩, .int .i64 0]) ∧ Below w.heap.size w w' := by
  have H1 := Lib.hid (isKey_yes key w hk)
  have H2 := Lib.hid (isBlock_yes l w hl)
  have H3 := Lib.hid (boxes_any w)
  have H4 := Lib.hid (fun W => gridOf_any l W hl)
  have H5 := Lib.hid (fun gb W hx => roundKeys_any key (key.length / 4 + 7) gb W hx hk rfl)
  have H6 := Lib.hid (fun gk gb W h1 h2 => encrypted_any l (keysF key) gk gb (key.length / 4 + 7) (key.length / 4 + 6) W hl (by rw [keysF_len key hk, Nat.mul_comm]) (by omega) rfl h1 h2)
  have H7 := Lib.hid (fun W => told_any (encL key l) W (encL_len key l hl))
  have HE : Hid (encN (key.length / 4 + 6) (keysF key) l (key.length / 4 + 7) = encL key l) := Lib.hid rfl
  rw [HE.out] at H6
  generalize encL key l = E at H6 H7 ⊢
  clear HE hk hl
  go_enter Try.func20, Try.ntmps20
  go_wp2_with fail
  refine H1.out.mono ?_
  rintro e w0 ⟨rfl, rfl⟩
  go_wp2_with fail
  refine H2.out.mono ?_
  rintro e w0 ⟨rfl, rfl⟩
  go_wp2_with fail
  refine H3.out.mono ?_
  rintro e w1 ⟨gb, rfl, hg, hB, hb1⟩
  have HB := Lib.hid hB
  clear hB
  go_wp2_with fail
  refine (H4.out _).mono ?_
  rintro e w2 ⟨rfl, hb2⟩
  have HB2 := Lib.hid (HB.out.below hb2)
  have hB2 := bt hb1 hb2
  clear hb1 hb2 HB
  go_wp2_with fail
  refine (H5.out _ _ HB2.out).mono ?_
  rintro e w3 ⟨gk, rfl, hgk, hK, hb3⟩
  have HK := Lib.hid hK
  have HB3 := Lib.hid (HB2.out.below hb3)
  have hB3 := bt hB2 hb3
  clear hb3 HB2 hB2 hK
  go_wp2_with fail
  refine (H6.out _ _ _ HK.out HB3.out).mono ?_
  rintro e w4 ⟨rfl, hb4⟩
  go_wp2_with fail
  refine (H7.out _).mono ?_
  rintro e w5 ⟨rfl, hb5⟩
  go_wp2_with fail
  go_ret2
  exact ⟨rfl, bt (bt hB3 hb4) hb5⟩
set_option maxRecDepth 100000 in
set_option maxHeartbeats 1000000 in
theorem enc_no (key l : List UInt8) (w : World) (h : ¬ ((key.length = 16 ∨ key.length = 32) ∧ l.length = 16)) :
    Calls Try.prog 20 #[.string ⟨key.toArray⟩, .string ⟨l.toArray⟩] w fun e w' => e = .returned (.tuple #[.string ⟨#[]⟩, .int .i64 4]) ∧ Below w.heap.size w w' := by
  by_cases hk : key.length = 16 ∨ key.length = 32
  · have H1 := Lib.hid (isKey_yes key w hk)
    have H2 := Lib.hid (isBlock_no l w (fun hl => h ⟨hk, hl⟩))
    clear h hk
    go_enter Try.func20, Try.ntmps20
    go_wp2_with fail
    refine H1.out.mono ?_
    rintro e w0 ⟨rfl, rfl⟩
    go_wp2_with fail
    refine H2.out.mono ?_
    rintro e w0 ⟨rfl, rfl⟩
    go_wp2_with fail
    go_ret2
    exact ⟨rfl, Below.refl _ _⟩
  · have H1 := Lib.hid (isKey_no key w hk)
    clear h hk
    go_enter Try.func20, Try.ntmps20
    go_wp2_with fail
    refine H1.out.mono ?_
    rintro e w0 ⟨rfl, rfl⟩
    go_wp2_with fail
    go_ret2
    exact ⟨rfl, Below.refl _ _⟩
end Go.Proofs.Ytodolffolbkaaaa
