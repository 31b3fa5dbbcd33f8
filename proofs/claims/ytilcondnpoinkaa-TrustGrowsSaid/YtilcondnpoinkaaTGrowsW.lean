/- The walk of TrustGrows, five ways. -/
import Derived.Test.YtilcondnpoinkaaTLaw
namespace Go.Proofs.Ytilcondnpoinkaa
open Go.RowKit

set_option maxRecDepth 100000 in
set_option maxHeartbeats 4000000 in
theorem grows_no (n b m : Nat) (k0 l2 : List UInt8) (w : World) (hk0 : (k0.length : Int) ≤ 9223372036854775807) (hl2 : (l2.length : Int) ≤ 9223372036854775807) (hM : mayB b (k0.take 100) = false) :
    Calls Try.prog 5 #[tv n b k0, .int .u64 (m : Int), .string ⟨l2.toArray⟩] w fun e w' => e = .returned (.bool true) ∧ Below w.heap.size w w' := by
  have CU := Lib.hid (fun W => tcut_any k0 W hk0)
  have CT := Lib.hid (fun W => tcut_any l2 W hl2)
  have hk1 : (k0.take 100).length ≤ 100 := by rw [List.length_take]; omega
  have ht1 : (l2.take 100).length ≤ 100 := by rw [List.length_take]; omega
  generalize k0.take 100 = k at *
  generalize l2.take 100 = t at *
  have hkm : (k.length : Int) ≤ 9223372036854775807 := by omega
  have DE := Lib.hid (fun W => derive_no n b k t W hkm hM)
  clear hM hk1 ht1 hl2 hk0
  go_enter Try.func5, Try.ntmps5
  go_wp2_with fail
  refine (CU.out _).mono ?_
  rintro e w1 ⟨rfl, rfl⟩
  go_wp2_with fail
  refine (CT.out _).mono ?_
  rintro e w2 ⟨rfl, rfl⟩
  go_wp2_with fail
  refine (DE.out _).mono ?_
  rintro e w3 ⟨rfl, hb3⟩
  have kp3 := (Blk.new w 24 #[.int .u64 (n : Int), .int .u64 (b : Int), .string ⟨k.toArray⟩]).below hb3
  have hB3 := bt (ba (Below.refl _ _) _) hb3
  clear hb3 CU CT DE
  go_wp2_with fail
  refine (talive_any _).mono ?_
  rintro e w4 ⟨rfl, hb4⟩
  go_wp2
  go_ret
  exact ⟨by first | rfl | simp, bt hB3 hb4⟩

set_option maxRecDepth 100000 in
set_option maxHeartbeats 4000000 in
theorem grows_last_low (n b m : Nat) (k0 l2 : List UInt8) (w : World) (hk0 : (k0.length : Int) ≤ 9223372036854775807) (hl2 : (l2.length : Int) ≤ 9223372036854775807) (hM : mayB b (k0.take 100) = true) (hb9 : b = 4294967295) (hmn : m ≤ n) :
    Calls Try.prog 5 #[tv n b k0, .int .u64 (m : Int), .string ⟨l2.toArray⟩] w fun e w' => e = .returned (.bool true) ∧ Below w.heap.size w w' := by
  have CU := Lib.hid (fun W => tcut_any k0 W hk0)
  have CT := Lib.hid (fun W => tcut_any l2 W hl2)
  have hk1 : (k0.take 100).length ≤ 100 := by rw [List.length_take]; omega
  have ht1 : (l2.take 100).length ≤ 100 := by rw [List.length_take]; omega
  generalize k0.take 100 = k at *
  generalize l2.take 100 = t at *
  have hkm : (k.length : Int) ≤ 9223372036854775807 := by omega
  have hKB : keyB k = true := by unfold mayB at hM; simp at hM; exact hM.1
  have DE := Lib.hid (fun W => derive_yes n b k t W hM (by omega))
  have BO : Hid (∀ W, Calls Try.prog 8 #[tv n b k] W fun e w' => e = .returned (.tuple #[.agg #[.int .u64 0, .int .u64 0, .string ⟨#[]⟩], .int .i64 2]) ∧ Below W.heap.size W w') := fun W => boot_last n b k W hkm hM hb9
  have CO : Hid (∀ W, Calls Try.prog 9 #[tv n b k, .int .u64 (m : Int)] W fun e w' => e = .returned (.tuple #[.agg #[.int .u64 0, .int .u64 0, .string ⟨#[]⟩], .int .i64 2]) ∧ Below W.heap.size W w') := fun W => commit_low n b m k W hkm hM hmn
  have hDl := deriveL_len k t hKB
  generalize deriveL k t = D at *
  have hzD := size_mk D
  have hzk := size_mk k
  rw [hDl] at hzD
  obtain ⟨kd, hkd⟩ : ∃ kd, k.length = kd := ⟨_, rfl⟩
  rw [hkd] at hzD hzk
  have e5 : decide ((n : Int) < (m : Int)) = false := by simp; omega
  have e6 : decide (n < m) = false := by simp; omega
  clear hM hk1 ht1 hl2 hk0 hKB hDl hkd hb9 hmn
  go_enter Try.func5, Try.ntmps5
  go_wp2_with fail
  refine (CU.out _).mono ?_
  rintro e w1 ⟨rfl, rfl⟩
  go_wp2_with fail
  refine (CT.out _).mono ?_
  rintro e w2 ⟨rfl, rfl⟩
  go_wp2_with fail
  refine (DE.out _).mono ?_
  rintro e w3 ⟨rfl, hb3⟩
  have kp3 := (Blk.new w 24 #[.int .u64 (n : Int), .int .u64 (b : Int), .string ⟨k.toArray⟩]).below hb3
  have hB3 := bt (ba (Below.refl _ _) _) hb3
  clear hb3 CU CT DE
  obtain ⟨⟨p0, p1, p2⟩, _, _, _⟩ := tcells kp3
  go_wp2_with fail
  refine (BO.out _).mono ?_
  rintro e w4 ⟨rfl, hb4⟩
  have kp4 := (kp3.below hb4).alloc (.cells #[.int .u64 0, .int .u64 0, .string ⟨#[]⟩] 24)
  have kq4 := Blk.new w4 24 #[.int .u64 0, .int .u64 0, .string ⟨#[]⟩]
  have hB4 := ba (bt hB3 hb4) (.cells #[.int .u64 0, .int .u64 0, .string ⟨#[]⟩] 24)
  clear p0 p1 p2 kp3 hB3 hb4 BO
  obtain ⟨⟨p0, p1, p2⟩, _, _, _⟩ := tcells kp4
  go_wp2_with fail
  refine (CO.out _).mono ?_
  rintro e w5 ⟨rfl, hb5⟩
  have kp5 := (kp4.below hb5).alloc (.cells #[.int .u64 0, .int .u64 0, .string ⟨#[]⟩] 24)
  have kq5 := (kq4.below hb5).alloc (.cells #[.int .u64 0, .int .u64 0, .string ⟨#[]⟩] 24)
  have kr5 := Blk.new w5 24 #[.int .u64 0, .int .u64 0, .string ⟨#[]⟩]
  have hB5 := ba (bt hB4 hb5) (.cells #[.int .u64 0, .int .u64 0, .string ⟨#[]⟩] 24)
  clear p0 p1 p2 kp4 kq4 hB4 hb5 CO
  obtain ⟨⟨p0, p1, p2⟩, _, _, _⟩ := tcells kp5
  obtain ⟨⟨q0, q1, q2⟩, _, _, _⟩ := tcells kq5
  obtain ⟨⟨r0, r1, r2⟩, _, _, _⟩ := tcells kr5
  go_wp2_with fail
  refine (talive_any _).mono ?_
  rintro e w6 ⟨rfl, hb6⟩
  have kp6 := kp5.below hb6
  have kq6 := kq5.below hb6
  have kr6 := kr5.below hb6
  have hB6 := bt hB5 hb6
  clear p0 p1 p2 q0 q1 q2 r0 r1 r2 kp5 kq5 kr5 hB5 hb6
  obtain ⟨⟨p0, p1, p2⟩, _, _, _⟩ := tcells kp6
  obtain ⟨⟨q0, q1, q2⟩, _, _, _⟩ := tcells kq6
  obtain ⟨⟨r0, r1, r2⟩, _, _, _⟩ := tcells kr6
  go_wp2
  go_ret
  exact ⟨by first | rfl | simp, hB6⟩

set_option maxRecDepth 100000 in
set_option maxHeartbeats 4000000 in
theorem grows_last_yes (n b m : Nat) (k0 l2 : List UInt8) (w : World) (hk0 : (k0.length : Int) ≤ 9223372036854775807) (hl2 : (l2.length : Int) ≤ 9223372036854775807) (hM : mayB b (k0.take 100) = true) (hb9 : b = 4294967295) (hmn : n < m) :
    Calls Try.prog 5 #[tv n b k0, .int .u64 (m : Int), .string ⟨l2.toArray⟩] w fun e w' => e = .returned (.bool true) ∧ Below w.heap.size w w' := by
  have CU := Lib.hid (fun W => tcut_any k0 W hk0)
  have CT := Lib.hid (fun W => tcut_any l2 W hl2)
  have hk1 : (k0.take 100).length ≤ 100 := by rw [List.length_take]; omega
  have ht1 : (l2.take 100).length ≤ 100 := by rw [List.length_take]; omega
  generalize k0.take 100 = k at *
  generalize l2.take 100 = t at *
  have hkm : (k.length : Int) ≤ 9223372036854775807 := by omega
  have hKB : keyB k = true := by unfold mayB at hM; simp at hM; exact hM.1
  have DE := Lib.hid (fun W => derive_yes n b k t W hM (by omega))
  have DC := Lib.hid (fun W => derive_yes m b k t W hM (by omega))
  have C2 : Hid (∀ W, Calls Try.prog 9 #[tv m b k, .int .u64 (m : Int)] W fun e w' => e = .returned (.tuple #[.agg #[.int .u64 0, .int .u64 0, .string ⟨#[]⟩], .int .i64 2]) ∧ Below W.heap.size W w') := fun W => commit_low m b m k W hkm hM (Nat.le_refl _)
  have BO : Hid (∀ W, Calls Try.prog 8 #[tv n b k] W fun e w' => e = .returned (.tuple #[.agg #[.int .u64 0, .int .u64 0, .string ⟨#[]⟩], .int .i64 2]) ∧ Below W.heap.size W w') := fun W => boot_last n b k W hkm hM hb9
  have CO : Hid (∀ W, Calls Try.prog 9 #[tv n b k, .int .u64 (m : Int)] W fun e w' => e = .returned (.tuple #[.agg #[.int .u64 (m : Int), .int .u64 (b : Int), .string ⟨k.toArray⟩], .int .i64 0]) ∧ Below W.heap.size W w') := fun W => commit_yes n b m k W hkm hM hmn
  have hDl := deriveL_len k t hKB
  generalize deriveL k t = D at *
  have hzD := size_mk D
  have hzk := size_mk k
  rw [hDl] at hzD
  obtain ⟨kd, hkd⟩ : ∃ kd, k.length = kd := ⟨_, rfl⟩
  rw [hkd] at hzD hzk
  have e3 : decide ((m : Int) ≤ (n : Int)) = false := by simp; omega
  have e4 : decide (m ≤ n) = false := by simp; omega
  have e5 : decide ((n : Int) < (m : Int)) = true := by simp; omega
  have e6 : decide (n < m) = true := by simp; omega
  clear hM hk1 ht1 hl2 hk0 hKB hDl hkd hb9 hmn
  go_enter Try.func5, Try.ntmps5
  go_wp2_with fail
  refine (CU.out _).mono ?_
  rintro e w1 ⟨rfl, rfl⟩
  go_wp2_with fail
  refine (CT.out _).mono ?_
  rintro e w2 ⟨rfl, rfl⟩
  go_wp2_with fail
  refine (DE.out _).mono ?_
  rintro e w3 ⟨rfl, hb3⟩
  have kp3 := (Blk.new w 24 #[.int .u64 (n : Int), .int .u64 (b : Int), .string ⟨k.toArray⟩]).below hb3
  have hB3 := bt (ba (Below.refl _ _) _) hb3
  clear hb3 CU CT DE
  obtain ⟨⟨p0, p1, p2⟩, _, _, _⟩ := tcells kp3
  go_wp2_with fail
  refine (BO.out _).mono ?_
  rintro e w4 ⟨rfl, hb4⟩
  have kp4 := (kp3.below hb4).alloc (.cells #[.int .u64 0, .int .u64 0, .string ⟨#[]⟩] 24)
  have kq4 := Blk.new w4 24 #[.int .u64 0, .int .u64 0, .string ⟨#[]⟩]
  have hB4 := ba (bt hB3 hb4) (.cells #[.int .u64 0, .int .u64 0, .string ⟨#[]⟩] 24)
  clear p0 p1 p2 kp3 hB3 hb4 BO
  obtain ⟨⟨p0, p1, p2⟩, _, _, _⟩ := tcells kp4
  go_wp2_with fail
  refine (CO.out _).mono ?_
  rintro e w5 ⟨rfl, hb5⟩
  have kp5 := (kp4.below hb5).alloc (.cells #[.int .u64 (m : Int), .int .u64 (b : Int), .string ⟨k.toArray⟩] 24)
  have kq5 := (kq4.below hb5).alloc (.cells #[.int .u64 (m : Int), .int .u64 (b : Int), .string ⟨k.toArray⟩] 24)
  have kr5 := Blk.new w5 24 #[.int .u64 (m : Int), .int .u64 (b : Int), .string ⟨k.toArray⟩]
  have hB5 := ba (bt hB4 hb5) (.cells #[.int .u64 (m : Int), .int .u64 (b : Int), .string ⟨k.toArray⟩] 24)
  clear p0 p1 p2 kp4 kq4 hB4 hb5 CO
  obtain ⟨⟨p0, p1, p2⟩, _, _, _⟩ := tcells kp5
  obtain ⟨⟨q0, q1, q2⟩, _, _, _⟩ := tcells kq5
  obtain ⟨⟨r0, r1, r2⟩, _, _, _⟩ := tcells kr5
  go_wp2_with fail
  refine (C2.out _).mono ?_
  rintro e w6 ⟨rfl, hb6⟩
  have kp6 := (kp5.below hb6).alloc (.cells #[.int .u64 0, .int .u64 0, .string ⟨#[]⟩] 24)
  have kq6 := (kq5.below hb6).alloc (.cells #[.int .u64 0, .int .u64 0, .string ⟨#[]⟩] 24)
  have kr6 := (kr5.below hb6).alloc (.cells #[.int .u64 0, .int .u64 0, .string ⟨#[]⟩] 24)
  have hB6 := ba (bt hB5 hb6) (.cells #[.int .u64 0, .int .u64 0, .string ⟨#[]⟩] 24)
  clear p0 p1 p2 q0 q1 q2 r0 r1 r2 kp5 kq5 kr5 hB5 hb6
  obtain ⟨⟨p0, p1, p2⟩, _, _, _⟩ := tcells kp6
  obtain ⟨⟨q0, q1, q2⟩, _, _, _⟩ := tcells kq6
  obtain ⟨⟨r0, r1, r2⟩, _, _, _⟩ := tcells kr6
  go_wp2_with fail
  refine (DC.out _).mono ?_
  rintro e w7 ⟨rfl, hb7⟩
  have kp7 := kp6.below hb7
  have kq7 := kq6.below hb7
  have kr7 := kr6.below hb7
  have hB7 := bt hB6 hb7
  clear p0 p1 p2 q0 q1 q2 r0 r1 r2 kp6 kq6 kr6 hB6 hb7
  obtain ⟨⟨p0, p1, p2⟩, _, _, _⟩ := tcells kp7
  obtain ⟨⟨q0, q1, q2⟩, _, _, _⟩ := tcells kq7
  obtain ⟨⟨r0, r1, r2⟩, _, _, _⟩ := tcells kr7
  go_wp2_with fail
  refine (talive_any _).mono ?_
  rintro e w8 ⟨rfl, hb8⟩
  have kp8 := kp7.below hb8
  have kq8 := kq7.below hb8
  have kr8 := kr7.below hb8
  have hB8 := bt hB7 hb8
  clear p0 p1 p2 q0 q1 q2 r0 r1 r2 kp7 kq7 kr7 hB7 hb8
  obtain ⟨⟨p0, p1, p2⟩, _, _, _⟩ := tcells kp8
  obtain ⟨⟨q0, q1, q2⟩, _, _, _⟩ := tcells kq8
  obtain ⟨⟨r0, r1, r2⟩, _, _, _⟩ := tcells kr8
  go_wp2
  go_ret
  exact ⟨by first | rfl | simp, hB8⟩

set_option maxRecDepth 100000 in
set_option maxHeartbeats 4000000 in
theorem grows_low (n b m : Nat) (k0 l2 : List UInt8) (w : World) (hk0 : (k0.length : Int) ≤ 9223372036854775807) (hl2 : (l2.length : Int) ≤ 9223372036854775807) (hM : mayB b (k0.take 100) = true) (hb9 : b < 4294967295) (hmn : m ≤ n) :
    Calls Try.prog 5 #[tv n b k0, .int .u64 (m : Int), .string ⟨l2.toArray⟩] w fun e w' => e = .returned (.bool true) ∧ Below w.heap.size w w' := by
  have CU := Lib.hid (fun W => tcut_any k0 W hk0)
  have CT := Lib.hid (fun W => tcut_any l2 W hl2)
  have hk1 : (k0.take 100).length ≤ 100 := by rw [List.length_take]; omega
  have ht1 : (l2.take 100).length ≤ 100 := by rw [List.length_take]; omega
  generalize k0.take 100 = k at *
  generalize l2.take 100 = t at *
  have hkm : (k.length : Int) ≤ 9223372036854775807 := by omega
  have hKB : keyB k = true := by unfold mayB at hM; simp at hM; exact hM.1
  have DE := Lib.hid (fun W => derive_yes n b k t W hM (by omega))
  obtain ⟨c, hc⟩ : ∃ c, b + 1 = c := ⟨_, rfl⟩
  have hMc : mayB c k = true := by unfold mayB; rw [hKB]; simp; omega
  have DB := Lib.hid (fun W => derive_yes n c k t W hMc (by omega))
  have BO : Hid (∀ W, Calls Try.prog 8 #[tv n b k] W fun e w' => e = .returned (.tuple #[.agg #[.int .u64 (n : Int), .int .u64 (c : Int), .string ⟨k.toArray⟩], .int .i64 0]) ∧ Below W.heap.size W w') := fun W => hc ▸ boot_yes n b k W hkm hM hb9
  have CO : Hid (∀ W, Calls Try.prog 9 #[tv n b k, .int .u64 (m : Int)] W fun e w' => e = .returned (.tuple #[.agg #[.int .u64 0, .int .u64 0, .string ⟨#[]⟩], .int .i64 2]) ∧ Below W.heap.size W w') := fun W => commit_low n b m k W hkm hM hmn
  have hDl := deriveL_len k t hKB
  generalize deriveL k t = D at *
  have hzD := size_mk D
  have hzk := size_mk k
  rw [hDl] at hzD
  obtain ⟨kd, hkd⟩ : ∃ kd, k.length = kd := ⟨_, rfl⟩
  rw [hkd] at hzD hzk
  have e1 : decide ((c : Int) ≤ (b : Int)) = false := by simp; omega
  have e2 : decide (c ≤ b) = false := by simp; omega
  have e5 : decide ((n : Int) < (m : Int)) = false := by simp; omega
  have e6 : decide (n < m) = false := by simp; omega
  clear hM hk1 ht1 hl2 hk0 hKB hDl hkd hb9 hmn hc hMc
  go_enter Try.func5, Try.ntmps5
  go_wp2_with fail
  refine (CU.out _).mono ?_
  rintro e w1 ⟨rfl, rfl⟩
  go_wp2_with fail
  refine (CT.out _).mono ?_
  rintro e w2 ⟨rfl, rfl⟩
  go_wp2_with fail
  refine (DE.out _).mono ?_
  rintro e w3 ⟨rfl, hb3⟩
  have kp3 := (Blk.new w 24 #[.int .u64 (n : Int), .int .u64 (b : Int), .string ⟨k.toArray⟩]).below hb3
  have hB3 := bt (ba (Below.refl _ _) _) hb3
  clear hb3 CU CT DE
  obtain ⟨⟨p0, p1, p2⟩, _, _, _⟩ := tcells kp3
  go_wp2_with fail
  refine (BO.out _).mono ?_
  rintro e w4 ⟨rfl, hb4⟩
  have kp4 := (kp3.below hb4).alloc (.cells #[.int .u64 (n : Int), .int .u64 (c : Int), .string ⟨k.toArray⟩] 24)
  have kq4 := Blk.new w4 24 #[.int .u64 (n : Int), .int .u64 (c : Int), .string ⟨k.toArray⟩]
  have hB4 := ba (bt hB3 hb4) (.cells #[.int .u64 (n : Int), .int .u64 (c : Int), .string ⟨k.toArray⟩] 24)
  clear p0 p1 p2 kp3 hB3 hb4 BO
  obtain ⟨⟨p0, p1, p2⟩, _, _, _⟩ := tcells kp4
  go_wp2_with fail
  refine (CO.out _).mono ?_
  rintro e w5 ⟨rfl, hb5⟩
  have kp5 := (kp4.below hb5).alloc (.cells #[.int .u64 0, .int .u64 0, .string ⟨#[]⟩] 24)
  have kq5 := (kq4.below hb5).alloc (.cells #[.int .u64 0, .int .u64 0, .string ⟨#[]⟩] 24)
  have kr5 := Blk.new w5 24 #[.int .u64 0, .int .u64 0, .string ⟨#[]⟩]
  have hB5 := ba (bt hB4 hb5) (.cells #[.int .u64 0, .int .u64 0, .string ⟨#[]⟩] 24)
  clear p0 p1 p2 kp4 kq4 hB4 hb5 CO
  obtain ⟨⟨p0, p1, p2⟩, _, _, _⟩ := tcells kp5
  obtain ⟨⟨q0, q1, q2⟩, _, _, _⟩ := tcells kq5
  obtain ⟨⟨r0, r1, r2⟩, _, _, _⟩ := tcells kr5
  go_wp2_with fail
  refine (DB.out _).mono ?_
  rintro e w6 ⟨rfl, hb6⟩
  have kp6 := kp5.below hb6
  have kq6 := kq5.below hb6
  have kr6 := kr5.below hb6
  have hB6 := bt hB5 hb6
  clear p0 p1 p2 q0 q1 q2 r0 r1 r2 kp5 kq5 kr5 hB5 hb6
  obtain ⟨⟨p0, p1, p2⟩, _, _, _⟩ := tcells kp6
  obtain ⟨⟨q0, q1, q2⟩, _, _, _⟩ := tcells kq6
  obtain ⟨⟨r0, r1, r2⟩, _, _, _⟩ := tcells kr6
  go_wp2_with fail
  refine (talive_any _).mono ?_
  rintro e w7 ⟨rfl, hb7⟩
  have kp7 := kp6.below hb7
  have kq7 := kq6.below hb7
  have kr7 := kr6.below hb7
  have hB7 := bt hB6 hb7
  clear p0 p1 p2 q0 q1 q2 r0 r1 r2 kp6 kq6 kr6 hB6 hb7
  obtain ⟨⟨p0, p1, p2⟩, _, _, _⟩ := tcells kp7
  obtain ⟨⟨q0, q1, q2⟩, _, _, _⟩ := tcells kq7
  obtain ⟨⟨r0, r1, r2⟩, _, _, _⟩ := tcells kr7
  go_wp2
  go_ret
  exact ⟨by first | rfl | simp, hB7⟩

set_option maxRecDepth 100000 in
set_option maxHeartbeats 4000000 in
theorem grows_yes (n b m : Nat) (k0 l2 : List UInt8) (w : World) (hk0 : (k0.length : Int) ≤ 9223372036854775807) (hl2 : (l2.length : Int) ≤ 9223372036854775807) (hM : mayB b (k0.take 100) = true) (hb9 : b < 4294967295) (hmn : n < m) :
    Calls Try.prog 5 #[tv n b k0, .int .u64 (m : Int), .string ⟨l2.toArray⟩] w fun e w' => e = .returned (.bool true) ∧ Below w.heap.size w w' := by
  have CU := Lib.hid (fun W => tcut_any k0 W hk0)
  have CT := Lib.hid (fun W => tcut_any l2 W hl2)
  have hk1 : (k0.take 100).length ≤ 100 := by rw [List.length_take]; omega
  have ht1 : (l2.take 100).length ≤ 100 := by rw [List.length_take]; omega
  generalize k0.take 100 = k at *
  generalize l2.take 100 = t at *
  have hkm : (k.length : Int) ≤ 9223372036854775807 := by omega
  have hKB : keyB k = true := by unfold mayB at hM; simp at hM; exact hM.1
  have DE := Lib.hid (fun W => derive_yes n b k t W hM (by omega))
  obtain ⟨c, hc⟩ : ∃ c, b + 1 = c := ⟨_, rfl⟩
  have hMc : mayB c k = true := by unfold mayB; rw [hKB]; simp; omega
  have DB := Lib.hid (fun W => derive_yes n c k t W hMc (by omega))
  have DC := Lib.hid (fun W => derive_yes m b k t W hM (by omega))
  have C2 : Hid (∀ W, Calls Try.prog 9 #[tv m b k, .int .u64 (m : Int)] W fun e w' => e = .returned (.tuple #[.agg #[.int .u64 0, .int .u64 0, .string ⟨#[]⟩], .int .i64 2]) ∧ Below W.heap.size W w') := fun W => commit_low m b m k W hkm hM (Nat.le_refl _)
  have BO : Hid (∀ W, Calls Try.prog 8 #[tv n b k] W fun e w' => e = .returned (.tuple #[.agg #[.int .u64 (n : Int), .int .u64 (c : Int), .string ⟨k.toArray⟩], .int .i64 0]) ∧ Below W.heap.size W w') := fun W => hc ▸ boot_yes n b k W hkm hM hb9
  have CO : Hid (∀ W, Calls Try.prog 9 #[tv n b k, .int .u64 (m : Int)] W fun e w' => e = .returned (.tuple #[.agg #[.int .u64 (m : Int), .int .u64 (b : Int), .string ⟨k.toArray⟩], .int .i64 0]) ∧ Below W.heap.size W w') := fun W => commit_yes n b m k W hkm hM hmn
  have hDl := deriveL_len k t hKB
  generalize deriveL k t = D at *
  have hzD := size_mk D
  have hzk := size_mk k
  rw [hDl] at hzD
  obtain ⟨kd, hkd⟩ : ∃ kd, k.length = kd := ⟨_, rfl⟩
  rw [hkd] at hzD hzk
  have e1 : decide ((c : Int) ≤ (b : Int)) = false := by simp; omega
  have e2 : decide (c ≤ b) = false := by simp; omega
  have e3 : decide ((m : Int) ≤ (n : Int)) = false := by simp; omega
  have e4 : decide (m ≤ n) = false := by simp; omega
  have e5 : decide ((n : Int) < (m : Int)) = true := by simp; omega
  have e6 : decide (n < m) = true := by simp; omega
  clear hM hk1 ht1 hl2 hk0 hKB hDl hkd hb9 hmn hc hMc
  go_enter Try.func5, Try.ntmps5
  go_wp2_with fail
  refine (CU.out _).mono ?_
  rintro e w1 ⟨rfl, rfl⟩
  go_wp2_with fail
  refine (CT.out _).mono ?_
  rintro e w2 ⟨rfl, rfl⟩
  go_wp2_with fail
  refine (DE.out _).mono ?_
  rintro e w3 ⟨rfl, hb3⟩
  have kp3 := (Blk.new w 24 #[.int .u64 (n : Int), .int .u64 (b : Int), .string ⟨k.toArray⟩]).below hb3
  have hB3 := bt (ba (Below.refl _ _) _) hb3
  clear hb3 CU CT DE
  obtain ⟨⟨p0, p1, p2⟩, _, _, _⟩ := tcells kp3
  go_wp2_with fail
  refine (BO.out _).mono ?_
  rintro e w4 ⟨rfl, hb4⟩
  have kp4 := (kp3.below hb4).alloc (.cells #[.int .u64 (n : Int), .int .u64 (c : Int), .string ⟨k.toArray⟩] 24)
  have kq4 := Blk.new w4 24 #[.int .u64 (n : Int), .int .u64 (c : Int), .string ⟨k.toArray⟩]
  have hB4 := ba (bt hB3 hb4) (.cells #[.int .u64 (n : Int), .int .u64 (c : Int), .string ⟨k.toArray⟩] 24)
  clear p0 p1 p2 kp3 hB3 hb4 BO
  obtain ⟨⟨p0, p1, p2⟩, _, _, _⟩ := tcells kp4
  go_wp2_with fail
  refine (CO.out _).mono ?_
  rintro e w5 ⟨rfl, hb5⟩
  have kp5 := (kp4.below hb5).alloc (.cells #[.int .u64 (m : Int), .int .u64 (b : Int), .string ⟨k.toArray⟩] 24)
  have kq5 := (kq4.below hb5).alloc (.cells #[.int .u64 (m : Int), .int .u64 (b : Int), .string ⟨k.toArray⟩] 24)
  have kr5 := Blk.new w5 24 #[.int .u64 (m : Int), .int .u64 (b : Int), .string ⟨k.toArray⟩]
  have hB5 := ba (bt hB4 hb5) (.cells #[.int .u64 (m : Int), .int .u64 (b : Int), .string ⟨k.toArray⟩] 24)
  clear p0 p1 p2 kp4 kq4 hB4 hb5 CO
  obtain ⟨⟨p0, p1, p2⟩, _, _, _⟩ := tcells kp5
  obtain ⟨⟨q0, q1, q2⟩, _, _, _⟩ := tcells kq5
  obtain ⟨⟨r0, r1, r2⟩, _, _, _⟩ := tcells kr5
  go_wp2_with fail
  refine (DB.out _).mono ?_
  rintro e w6 ⟨rfl, hb6⟩
  have kp6 := kp5.below hb6
  have kq6 := kq5.below hb6
  have kr6 := kr5.below hb6
  have hB6 := bt hB5 hb6
  clear p0 p1 p2 q0 q1 q2 r0 r1 r2 kp5 kq5 kr5 hB5 hb6
  obtain ⟨⟨p0, p1, p2⟩, _, _, _⟩ := tcells kp6
  obtain ⟨⟨q0, q1, q2⟩, _, _, _⟩ := tcells kq6
  obtain ⟨⟨r0, r1, r2⟩, _, _, _⟩ := tcells kr6
  go_wp2_with fail
  refine (C2.out _).mono ?_
  rintro e w7 ⟨rfl, hb7⟩
  have kp7 := (kp6.below hb7).alloc (.cells #[.int .u64 0, .int .u64 0, .string ⟨#[]⟩] 24)
  have kq7 := (kq6.below hb7).alloc (.cells #[.int .u64 0, .int .u64 0, .string ⟨#[]⟩] 24)
  have kr7 := (kr6.below hb7).alloc (.cells #[.int .u64 0, .int .u64 0, .string ⟨#[]⟩] 24)
  have hB7 := ba (bt hB6 hb7) (.cells #[.int .u64 0, .int .u64 0, .string ⟨#[]⟩] 24)
  clear p0 p1 p2 q0 q1 q2 r0 r1 r2 kp6 kq6 kr6 hB6 hb7
  obtain ⟨⟨p0, p1, p2⟩, _, _, _⟩ := tcells kp7
  obtain ⟨⟨q0, q1, q2⟩, _, _, _⟩ := tcells kq7
  obtain ⟨⟨r0, r1, r2⟩, _, _, _⟩ := tcells kr7
  go_wp2_with fail
  refine (DC.out _).mono ?_
  rintro e w8 ⟨rfl, hb8⟩
  have kp8 := kp7.below hb8
  have kq8 := kq7.below hb8
  have kr8 := kr7.below hb8
  have hB8 := bt hB7 hb8
  clear p0 p1 p2 q0 q1 q2 r0 r1 r2 kp7 kq7 kr7 hB7 hb8
  obtain ⟨⟨p0, p1, p2⟩, _, _, _⟩ := tcells kp8
  obtain ⟨⟨q0, q1, q2⟩, _, _, _⟩ := tcells kq8
  obtain ⟨⟨r0, r1, r2⟩, _, _, _⟩ := tcells kr8
  go_wp2_with fail
  refine (talive_any _).mono ?_
  rintro e w9 ⟨rfl, hb9⟩
  have kp9 := kp8.below hb9
  have kq9 := kq8.below hb9
  have kr9 := kr8.below hb9
  have hB9 := bt hB8 hb9
  clear p0 p1 p2 q0 q1 q2 r0 r1 r2 kp8 kq8 kr8 hB8 hb9
  obtain ⟨⟨p0, p1, p2⟩, _, _, _⟩ := tcells kp9
  obtain ⟨⟨q0, q1, q2⟩, _, _, _⟩ := tcells kq9
  obtain ⟨⟨r0, r1, r2⟩, _, _, _⟩ := tcells kr9
  go_wp2
  go_ret
  exact ⟨by first | rfl | simp, hB9⟩

theorem grows_any (n b m : Nat) (k0 l2 : List UInt8) (w : World) (hk0 : (k0.length : Int) ≤ 9223372036854775807) (hl2 : (l2.length : Int) ≤ 9223372036854775807) :
    Calls Try.prog 5 #[tv n b k0, .int .u64 (m : Int), .string ⟨l2.toArray⟩] w fun e w' => e = .returned (.bool true) ∧ Below w.heap.size w w' := by
  cases hM : mayB b (k0.take 100) with
  | false => exact grows_no n b m k0 l2 w hk0 hl2 hM
  | true =>
    have hb : b ≤ 4294967295 := by unfold mayB at hM; simp at hM; exact hM.2
    by_cases hl : b = 4294967295
    · by_cases hm : m ≤ n
      · exact grows_last_low n b m k0 l2 w hk0 hl2 hM hl hm
      · exact grows_last_yes n b m k0 l2 w hk0 hl2 hM hl (by omega)
    · by_cases hm : m ≤ n
      · exact grows_low n b m k0 l2 w hk0 hl2 hM (by omega) hm
      · exact grows_yes n b m k0 l2 w hk0 hl2 hM (by omega) (by omega)
end Go.Proofs.Ytilcondnpoinkaa
