/- The contracts of Word and Derive, and of the reference's. -/
import Derived.Test.YtilcondnpoinkaaTSlot
import Derived.Test.YtilcondnpoinkaaTNum
import Derived.Test.YtilcondnpoinkaaCRef
import Derived.Test.YtilcondnpoinkaaMTag
import Derived.Test.YtilcondnpoinkaaBase0
namespace Go.Proofs.Ytilcondnpoinkaa
open Go.RowKit

/-- A key's number for a text. -/
def wordL (k s : List UInt8) : Nat := val ((tagL k s).take 8)
theorem wordL_lt (k s : List UInt8) : wordL k s < 18446744073709551616 := by
  have h := val_lt ((tagL k s).take 8)
  have hl : ((tagL k s).take 8).length = 8 := by rw [List.length_take, tagL_len]; rfl
  rw [hl] at h
  exact h

set_option maxRecDepth 100000 in
set_option maxHeartbeats 1000000 in
theorem tword_any (k s : List UInt8) (w : World) (hk : k.length ≤ 60000) (hs : s.length ≤ 60000) :
    Calls Try.prog 14 #[.string ⟨k.toArray⟩, .string ⟨s.toArray⟩] w fun e w' => e = .returned (.int .u64 (wordL k s : Int)) ∧ Below w.heap.size w w' := by
  have hl := tagL_len k s
  have T1 := Lib.hid (mtag_any k s w hk hs)
  have HW : Hid (wordL k s = val ((tagL k s).take 8)) := Lib.hid rfl
  generalize tagL k s = T at hl T1 HW
  have hz := size_mk T
  rw [hl] at hz
  have hex := extract_take T 8
  have N1 := Lib.hid (fun W => number64_any (T.take 8) W (by rw [List.length_take, hl]; rfl))
  rw [← HW.out] at N1
  clear HW hl
  generalize wordL k s = V at N1 ⊢
  generalize T.take 8 = U at N1 hex
  go_enter Try.func14, Try.ntmps14
  go_wp2_with fail
  refine T1.out.mono ?_
  rintro e w1 ⟨rfl, hb1⟩
  go_wp2_with fail
  refine (N1.out _).mono ?_
  rintro e w2 ⟨rfl, rfl⟩
  go_wp2
  go_ret
  exact ⟨rfl, hb1⟩

set_option maxRecDepth 100000 in
set_option maxHeartbeats 1000000 in
theorem rtword_any (k s : List UInt8) (w : World) (hk : k.length ≤ 60000) (hs : s.length ≤ 60000) :
    Calls Try.prog 15 #[.string ⟨k.toArray⟩, .string ⟨s.toArray⟩] w fun e w' => e = .returned (.int .u64 (wordL k s : Int)) ∧ Below w.heap.size w w' := by
  have hl := tagL_len k s
  have T1 := Lib.hid (rtag_any k s w hk hs)
  have HW : Hid (wordL k s = val ((tagL k s).take 8)) := Lib.hid rfl
  generalize tagL k s = T at hl T1 HW
  have hz := size_mk T
  rw [hl] at hz
  have hex := extract_take T 8
  have N1 := Lib.hid (fun W => value_any (T.take 8) W (by rw [List.length_take]; omega))
  rw [← HW.out] at N1
  clear HW hl
  generalize wordL k s = V at N1 ⊢
  generalize T.take 8 = U at N1 hex
  go_enter Try.func15, Try.ntmps15
  go_wp2_with fail
  refine T1.out.mono ?_
  rintro e w1 ⟨rfl, hb1⟩
  go_wp2_with fail
  refine (N1.out _).mono ?_
  rintro e w2 ⟨rfl, rfl⟩
  go_wp2
  go_ret
  exact ⟨rfl, hb1⟩

/-- A slot's key for a name. -/
def deriveL (k s : List UInt8) : List UInt8 := (tagL k (low s.length 2 ++ s)).take k.length
theorem deriveL_len (k s : List UInt8) (h : keyB k = true) : (deriveL k s).length = k.length := by
  have : k.length ≤ 32 := by simp [keyB] at h; omega
  rw [deriveL, List.length_take, tagL_len]
  omega
theorem keyB_le {k : List UInt8} (h : keyB k = true) : k.length ≤ 32 := by simp [keyB] at h; omega

set_option maxRecDepth 100000 in
set_option maxHeartbeats 1000000 in
theorem rderive_any (k s : List UInt8) (w : World) (hk : keyB k = true) (hs : s.length ≤ 4096) :
    Calls Try.prog 16 #[.string ⟨k.toArray⟩, .string ⟨s.toArray⟩] w fun e w' => e = .returned (.string ⟨(deriveL k s).toArray⟩) ∧ Below w.heap.size w w' := by
  have hk32 := keyB_le hk
  have O1 := Lib.hid (fun W => one_text 0 s W hs)
  have HD : Hid (deriveL k s = (tagL k (low s.length 2 ++ s)).take k.length) := Lib.hid rfl
  have T1 := Lib.hid (fun W => rtag_any k (low s.length 2 ++ s) W (by omega) (by rw [List.length_append, low_length]; omega))
  have hl := tagL_len k (low s.length 2 ++ s)
  generalize low s.length 2 ++ s = A at O1 T1 HD hl
  generalize tagL k A = T at hl T1 HD
  have hz := size_mk T
  rw [hl] at hz
  have hzk := size_mk k
  obtain ⟨n, hn⟩ : ∃ n, k.length = n := ⟨_, rfl⟩
  rw [hn] at HD hzk hk32
  have hex := extract_take T n
  rw [← HD.out] at hex
  clear HD hl hk hs hn
  generalize deriveL k s = V at hex ⊢
  have i1 : (n : Int) ≤ 32 := by omega
  go_enter Try.func16, Try.ntmps16
  go_wp2_with fail
  refine (O1.out _).mono ?_
  rintro e w1 ⟨rfl, hb1⟩
  go_wp2_with fail
  refine (T1.out _).mono ?_
  rintro e w2 ⟨rfl, hb2⟩
  go_wp2
  go_ret
  exact ⟨rfl, bt hb1 hb2⟩

set_option maxRecDepth 100000 in
set_option maxHeartbeats 1000000 in
theorem derive_no (n b : Nat) (k s : List UInt8) (w : World) (hk : (k.length : Int) ≤ 9223372036854775807) (hm : mayB b k = false) :
    Calls Try.prog 13 #[tv n b k, .string ⟨s.toArray⟩] w fun e w' => e = .returned (.tuple #[.string ⟨#[]⟩, .int .i64 1]) ∧ Below w.heap.size w w' := by
  go_enter Try.func13, Try.ntmps13
  go_wp2_with fail
  refine (mayBe_any n b k _ hk).mono ?_
  rw [hm]
  rintro e w1 ⟨rfl, hb1⟩
  go_wp2
  go_ret2
  exact ⟨rfl, bt (ba (Below.refl _ _) _) hb1⟩

set_option maxRecDepth 100000 in
set_option maxHeartbeats 1000000 in
theorem derive_long (n b : Nat) (k s : List UInt8) (w : World) (hk : (k.length : Int) ≤ 9223372036854775807) (hm : mayB b k = true) (hs : 4096 < s.length) (hs2 : s.length ≤ 9223372036854775807) :
    Calls Try.prog 13 #[tv n b k, .string ⟨s.toArray⟩] w fun e w' => e = .returned (.tuple #[.string ⟨#[]⟩, .int .i64 4]) ∧ Below w.heap.size w w' := by
  have T1 := Lib.hid (fun W => text_long s W hs hs2)
  clear hs hs2
  go_enter Try.func13, Try.ntmps13
  go_wp2_with fail
  refine (mayBe_any n b k _ hk).mono ?_
  rw [hm]
  rintro e w1 ⟨rfl, hb1⟩
  go_wp2_with fail
  refine (T1.out _).mono ?_
  rintro e w2 ⟨rfl, hb2⟩
  go_wp2
  go_ret2
  exact ⟨rfl, bt (bt (ba (Below.refl _ _) _) hb1) hb2⟩

set_option maxRecDepth 100000 in
set_option maxHeartbeats 1000000 in
theorem derive_yes (n b : Nat) (k s : List UInt8) (w : World) (hm : mayB b k = true) (hs : s.length ≤ 4096) :
    Calls Try.prog 13 #[tv n b k, .string ⟨s.toArray⟩] w fun e w' => e = .returned (.tuple #[.string ⟨(deriveL k s).toArray⟩, .int .i64 0]) ∧ Below w.heap.size w w' := by
  have hk : keyB k = true := by unfold mayB at hm; simp at hm; exact hm.1
  have hk32 := keyB_le hk
  have O1 := Lib.hid (fun W => text_ok s W hs)
  have HE : enc (true, 0, s) = low s.length 2 ++ s := enc_text 0 s
  rw [HE] at O1
  have HD : Hid (deriveL k s = (tagL k (low s.length 2 ++ s)).take k.length) := Lib.hid rfl
  have T1 := Lib.hid (fun W => mtag_any k (low s.length 2 ++ s) W (by omega) (by rw [List.length_append, low_length]; omega))
  have hl := tagL_len k (low s.length 2 ++ s)
  generalize low s.length 2 ++ s = A at O1 T1 HD hl
  generalize tagL k A = T at hl T1 HD
  have hz := size_mk T
  rw [hl] at hz
  have hzk := size_mk k
  obtain ⟨m, hm2⟩ : ∃ m, k.length = m := ⟨_, rfl⟩
  rw [hm2] at HD hzk hk32
  have hex := extract_take T m
  rw [← HD.out] at hex
  have M1 := Lib.hid (fun W => mayBe_any n b k W (by omega))
  rw [hm] at M1
  have kp := Blk.new w 24 #[.int .u64 (n : Int), .int .u64 (b : Int), .string ⟨k.toArray⟩]
  have hB0 := ba (Below.refl w.heap.size w) (.cells #[.int .u64 (n : Int), .int .u64 (b : Int), .string ⟨k.toArray⟩] 24)
  have KP := Lib.hid kp
  clear HD HE hl hk hs hm2 hm kp
  generalize deriveL k s = V at hex ⊢
  have i1 : (m : Int) ≤ 32 := by omega
  go_enter Try.func13, Try.ntmps13
  go_wp2_with fail
  refine (M1.out _).mono ?_
  rintro e w1 ⟨rfl, hb1⟩
  have kp := KP.out.below hb1
  have hB1 := bt hB0 hb1
  clear KP hB0 hb1
  go_wp2_with fail
  refine (O1.out _).mono ?_
  rintro e w2 ⟨rfl, hb2⟩
  have kp2 := kp.below hb2
  have hB2 := bt hB1 hb2
  have c2 := kp2.cell 2
  simp only [List.getElem?_toArray, List.getElem?_cons_zero, List.getElem?_cons_succ] at c2
  have KP2 := Lib.hid kp2
  clear kp kp2 hb2 hB1
  go_wp2_with fail
  go_region_held3 (fun W => W.cell? ⟨w.heap.size, 2, none⟩ = some (.string ⟨k.toArray⟩)) (first | exact c2 | assumption | go_keep) (first | (go_at_call 20; (with_reducible refine (T1.out _).mono ?_); rintro e w3 ⟨rfl, hb3⟩; have hS := ((KP2.out.drew).below hb3).cell 2))
  go_wp2
  go_ret2
  exact ⟨rfl, bt hB2.drew hb3⟩
end Go.Proofs.Ytilcondnpoinkaa
