/- The walk of TrustSlots, six ways. -/
import Derived.Test.YtilcondnpoinkaaTLaw
namespace Go.Proofs.Ytilcondnpoinkaa
open Go.RowKit

set_option maxRecDepth 100000 in
set_option maxHeartbeats 4000000 in
theorem slots_size (n b m : Nat) (k0 : List UInt8) (w : World) (hk0 : (k0.length : Int) ≤ 9223372036854775807) (hK : keyB (k0.take 100) = false) (hM : mayB b (k0.take 100) = false) :
    Calls Try.prog 3 #[tv n b k0, .int .u64 (m : Int)] w fun e w' => e = .returned (.bool true) ∧ Below w.heap.size w w' := by
  have CU := Lib.hid (fun W => tcut_any k0 W hk0)
  have hk1 : (k0.take 100).length ≤ 100 := by rw [List.length_take]; omega
  generalize k0.take 100 = k at *
  have hkm : (k.length : Int) ≤ 9223372036854775807 := by omega
  have NE : Hid (∀ W, Calls Try.prog 7 #[.string ⟨k.toArray⟩] W fun e w' => e = .returned (.tuple #[(.agg #[.int .u64 0, .int .u64 0, .string ⟨#[]⟩]), .int .i64 4]) ∧ Below W.heap.size W w') := fun W => tnew_no k W hkm hK
  have BO : Hid (∀ W, Calls Try.prog 8 #[tv n b k] W fun e w' => e = .returned (.tuple #[(.agg #[.int .u64 0, .int .u64 0, .string ⟨#[]⟩]), .int .i64 1]) ∧ Below W.heap.size W w') := fun W => boot_no n b k W hkm hM
  have CO : Hid (∀ W, Calls Try.prog 9 #[tv n b k, .int .u64 (m : Int)] W fun e w' => e = .returned (.tuple #[(.agg #[.int .u64 0, .int .u64 0, .string ⟨#[]⟩]), .int .i64 1]) ∧ Below W.heap.size W w') := fun W => commit_no n b m k W hkm hM
  have KE : Hid (∀ W, Calls Try.prog 10 #[.string ⟨k.toArray⟩] W fun e w' => e = .returned (.bool false) ∧ W = w') := fun W => hK ▸ tkey_any k W hkm
  have RI : Hid (∀ W, Calls Try.prog 12 #[tv n b k] W fun e w' => e = .returned (.bool false) ∧ Below W.heap.size W w') := fun W => hM ▸ tright_any n b k W hkm
  clear hK hM
  go_enter Try.func3, Try.ntmps3
  go_wp2_with fail
  refine (CU.out _).mono ?_
  rintro e w1 ⟨rfl, rfl⟩
  go_wp2_with fail
  refine (NE.out _).mono ?_
  rintro e w2 ⟨rfl, hb2⟩
  have kp2 := (Blk.new w 24 #[.int .u64 (n : Int), .int .u64 (b : Int), .string ⟨k.toArray⟩]).below hb2
  have hB2 := bt (ba (Below.refl _ _) _) hb2
  clear hb2
  have pp2 := Lib.hid kp2
  obtain ⟨⟨p0, p1, p2⟩, _, _, _⟩ := tcells (kp2.alloc (.cells #[.int .u64 0, .int .u64 0, .string ⟨#[]⟩] 24))
  go_wp2_with fail
  refine (BO.out _).mono ?_
  rintro e w3 ⟨rfl, hb3⟩
  have kp3 := (kp2.alloc (.cells #[.int .u64 0, .int .u64 0, .string ⟨#[]⟩] 24)).below hb3
  have kq3 := (Blk.new w2 24 #[.int .u64 0, .int .u64 0, .string ⟨#[]⟩]).below hb3
  have hB3 := bt (ba hB2 _) hb3
  clear hb3 kp2 hB2 p0 p1 p2 pp2
  obtain ⟨⟨p0, p1, p2⟩, _, _, _⟩ := tcells (kp3.alloc (.cells #[.int .u64 0, .int .u64 0, .string ⟨#[]⟩] 24))
  go_wp2_with fail
  refine (CO.out _).mono ?_
  rintro e w4 ⟨rfl, hb4⟩
  have kp4 := (kp3.alloc (.cells #[.int .u64 0, .int .u64 0, .string ⟨#[]⟩] 24)).below hb4
  have kq4 := (kq3.alloc (.cells #[.int .u64 0, .int .u64 0, .string ⟨#[]⟩] 24)).below hb4
  have kr4 := (Blk.new w3 24 #[.int .u64 0, .int .u64 0, .string ⟨#[]⟩]).below hb4
  have hB4 := bt (ba hB3 _) hb4
  clear hb4 kp3 kq3 hB3 p0 p1 p2
  have kp5 := kp4.alloc (.cells #[.int .u64 0, .int .u64 0, .string ⟨#[]⟩] 24)
  have kq5 := kq4.alloc (.cells #[.int .u64 0, .int .u64 0, .string ⟨#[]⟩] 24)
  have kr5 := kr4.alloc (.cells #[.int .u64 0, .int .u64 0, .string ⟨#[]⟩] 24)
  have ks5 := Blk.new w4 24 #[.int .u64 0, .int .u64 0, .string ⟨#[]⟩]
  have hB5 := ba hB4 (.cells #[.int .u64 0, .int .u64 0, .string ⟨#[]⟩] 24)
  clear kp4 kq4 kr4 hB4
  obtain ⟨⟨p0, p1, p2⟩, _, _, _⟩ := tcells kp5
  obtain ⟨⟨q0, q1, q2⟩, _, _, _⟩ := tcells kq5
  go_wp2_with fail
  refine (KE.out _).mono ?_
  rintro e w5 ⟨rfl, rfl⟩
  go_wp2_with fail
  refine (talive_any _).mono ?_
  rintro e w6 ⟨rfl, hb6⟩
  have kp6 := kp5.below hb6
  have kr6 := kr5.below hb6
  have ks6 := ks5.below hb6
  have hB6 := bt hB5 hb6
  clear hb6 kp5 kq5 kr5 ks5 hB5 p0 p1 p2 q0 q1 q2
  obtain ⟨⟨p0, p1, p2⟩, _, _, _⟩ := tcells kp6
  go_wp2_with fail
  refine (RI.out _).mono ?_
  rintro e w7 ⟨rfl, hb7⟩
  have kp7 := kp6.below hb7
  have kr7 := kr6.below hb7
  have ks7 := ks6.below hb7
  have hB7 := bt hB6 hb7
  clear hb7 kp6 kr6 ks6 hB6 p0 p1 p2
  obtain ⟨⟨p0, p1, p2⟩, _, _, _⟩ := tcells kp7
  obtain ⟨⟨r0, r1, r2⟩, _, _, _⟩ := tcells kr7
  obtain ⟨⟨s0, s1, s2⟩, _, _, _⟩ := tcells ks7
  clear kp7 kr7 ks7
  go_wp2
  go_ret
  exact ⟨by first | rfl | simp, hB7⟩

set_option maxRecDepth 100000 in
set_option maxHeartbeats 4000000 in
theorem slots_arg (n b m : Nat) (k0 : List UInt8) (w : World) (hk0 : (k0.length : Int) ≤ 9223372036854775807) (hK : keyB (k0.take 100) = true) (hM : mayB b (k0.take 100) = false) :
    Calls Try.prog 3 #[tv n b k0, .int .u64 (m : Int)] w fun e w' => e = .returned (.bool true) ∧ Below w.heap.size w w' := by
  have CU := Lib.hid (fun W => tcut_any k0 W hk0)
  have hk1 : (k0.take 100).length ≤ 100 := by rw [List.length_take]; omega
  generalize k0.take 100 = k at *
  have hkm : (k.length : Int) ≤ 9223372036854775807 := by omega
  have NE : Hid (∀ W, Calls Try.prog 7 #[.string ⟨k.toArray⟩] W fun e w' => e = .returned (.tuple #[(.agg #[.int .u64 0, .int .u64 0, .string ⟨k.toArray⟩]), .int .i64 0]) ∧ Below W.heap.size W w') := fun W => tnew_yes k W hkm hK
  have BO : Hid (∀ W, Calls Try.prog 8 #[tv n b k] W fun e w' => e = .returned (.tuple #[(.agg #[.int .u64 0, .int .u64 0, .string ⟨#[]⟩]), .int .i64 1]) ∧ Below W.heap.size W w') := fun W => boot_no n b k W hkm hM
  have CO : Hid (∀ W, Calls Try.prog 9 #[tv n b k, .int .u64 (m : Int)] W fun e w' => e = .returned (.tuple #[(.agg #[.int .u64 0, .int .u64 0, .string ⟨#[]⟩]), .int .i64 1]) ∧ Below W.heap.size W w') := fun W => commit_no n b m k W hkm hM
  have KE : Hid (∀ W, Calls Try.prog 10 #[.string ⟨k.toArray⟩] W fun e w' => e = .returned (.bool true) ∧ W = w') := fun W => hK ▸ tkey_any k W hkm
  have RI : Hid (∀ W, Calls Try.prog 12 #[tv n b k] W fun e w' => e = .returned (.bool false) ∧ Below W.heap.size W w') := fun W => hM ▸ tright_any n b k W hkm
  clear hK hM
  go_enter Try.func3, Try.ntmps3
  go_wp2_with fail
  refine (CU.out _).mono ?_
  rintro e w1 ⟨rfl, rfl⟩
  go_wp2_with fail
  refine (NE.out _).mono ?_
  rintro e w2 ⟨rfl, hb2⟩
  have kp2 := (Blk.new w 24 #[.int .u64 (n : Int), .int .u64 (b : Int), .string ⟨k.toArray⟩]).below hb2
  have hB2 := bt (ba (Below.refl _ _) _) hb2
  clear hb2
  have pp2 := Lib.hid kp2
  obtain ⟨⟨p0, p1, p2⟩, _, _, _⟩ := tcells (kp2.alloc (.cells #[.int .u64 0, .int .u64 0, .string ⟨k.toArray⟩] 24))
  go_wp2_with fail
  refine (BO.out _).mono ?_
  rintro e w3 ⟨rfl, hb3⟩
  have kp3 := (kp2.alloc (.cells #[.int .u64 0, .int .u64 0, .string ⟨k.toArray⟩] 24)).below hb3
  have kq3 := (Blk.new w2 24 #[.int .u64 0, .int .u64 0, .string ⟨k.toArray⟩]).below hb3
  have hB3 := bt (ba hB2 _) hb3
  clear hb3 kp2 hB2 p0 p1 p2 pp2
  obtain ⟨⟨p0, p1, p2⟩, _, _, _⟩ := tcells (kp3.alloc (.cells #[.int .u64 0, .int .u64 0, .string ⟨#[]⟩] 24))
  go_wp2_with fail
  refine (CO.out _).mono ?_
  rintro e w4 ⟨rfl, hb4⟩
  have kp4 := (kp3.alloc (.cells #[.int .u64 0, .int .u64 0, .string ⟨#[]⟩] 24)).below hb4
  have kq4 := (kq3.alloc (.cells #[.int .u64 0, .int .u64 0, .string ⟨#[]⟩] 24)).below hb4
  have kr4 := (Blk.new w3 24 #[.int .u64 0, .int .u64 0, .string ⟨#[]⟩]).below hb4
  have hB4 := bt (ba hB3 _) hb4
  clear hb4 kp3 kq3 hB3 p0 p1 p2
  have kp5 := kp4.alloc (.cells #[.int .u64 0, .int .u64 0, .string ⟨#[]⟩] 24)
  have kq5 := kq4.alloc (.cells #[.int .u64 0, .int .u64 0, .string ⟨#[]⟩] 24)
  have kr5 := kr4.alloc (.cells #[.int .u64 0, .int .u64 0, .string ⟨#[]⟩] 24)
  have ks5 := Blk.new w4 24 #[.int .u64 0, .int .u64 0, .string ⟨#[]⟩]
  have hB5 := ba hB4 (.cells #[.int .u64 0, .int .u64 0, .string ⟨#[]⟩] 24)
  clear kp4 kq4 kr4 hB4
  obtain ⟨⟨p0, p1, p2⟩, _, _, _⟩ := tcells kp5
  obtain ⟨⟨q0, q1, q2⟩, _, _, _⟩ := tcells kq5
  go_wp2_with fail
  refine (KE.out _).mono ?_
  rintro e w5 ⟨rfl, rfl⟩
  go_wp2_with fail
  refine (talive_any _).mono ?_
  rintro e w6 ⟨rfl, hb6⟩
  have kp6 := kp5.below hb6
  have kr6 := kr5.below hb6
  have ks6 := ks5.below hb6
  have hB6 := bt hB5 hb6
  clear hb6 kp5 kq5 kr5 ks5 hB5 p0 p1 p2 q0 q1 q2
  obtain ⟨⟨p0, p1, p2⟩, _, _, _⟩ := tcells kp6
  go_wp2_with fail
  refine (RI.out _).mono ?_
  rintro e w7 ⟨rfl, hb7⟩
  have kp7 := kp6.below hb7
  have kr7 := kr6.below hb7
  have ks7 := ks6.below hb7
  have hB7 := bt hB6 hb7
  clear hb7 kp6 kr6 ks6 hB6 p0 p1 p2
  obtain ⟨⟨p0, p1, p2⟩, _, _, _⟩ := tcells kp7
  obtain ⟨⟨r0, r1, r2⟩, _, _, _⟩ := tcells kr7
  obtain ⟨⟨s0, s1, s2⟩, _, _, _⟩ := tcells ks7
  clear kp7 kr7 ks7
  go_wp2
  go_ret
  exact ⟨by first | rfl | simp, hB7⟩

set_option maxRecDepth 100000 in
set_option maxHeartbeats 4000000 in
theorem slots_last_low (n b m : Nat) (k0 : List UInt8) (w : World) (hk0 : (k0.length : Int) ≤ 9223372036854775807) (hK : keyB (k0.take 100) = true) (hM : mayB b (k0.take 100) = true) (hb9 : b = 4294967295) (hmn : m ≤ n) :
    Calls Try.prog 3 #[tv n b k0, .int .u64 (m : Int)] w fun e w' => e = .returned (.bool true) ∧ Below w.heap.size w w' := by
  have CU := Lib.hid (fun W => tcut_any k0 W hk0)
  have hk1 : (k0.take 100).length ≤ 100 := by rw [List.length_take]; omega
  generalize k0.take 100 = k at *
  have hkm : (k.length : Int) ≤ 9223372036854775807 := by omega
  have NE : Hid (∀ W, Calls Try.prog 7 #[.string ⟨k.toArray⟩] W fun e w' => e = .returned (.tuple #[(.agg #[.int .u64 0, .int .u64 0, .string ⟨k.toArray⟩]), .int .i64 0]) ∧ Below W.heap.size W w') := fun W => tnew_yes k W hkm hK
  have BO : Hid (∀ W, Calls Try.prog 8 #[tv n b k] W fun e w' => e = .returned (.tuple #[(.agg #[.int .u64 0, .int .u64 0, .string ⟨#[]⟩]), .int .i64 2]) ∧ Below W.heap.size W w') := fun W => boot_last n b k W hkm hM hb9
  have CO : Hid (∀ W, Calls Try.prog 9 #[tv n b k, .int .u64 (m : Int)] W fun e w' => e = .returned (.tuple #[(.agg #[.int .u64 0, .int .u64 0, .string ⟨#[]⟩]), .int .i64 2]) ∧ Below W.heap.size W w') := fun W => commit_low n b m k W hkm hM hmn
  have KE : Hid (∀ W, Calls Try.prog 10 #[.string ⟨k.toArray⟩] W fun e w' => e = .returned (.bool true) ∧ W = w') := fun W => hK ▸ tkey_any k W hkm
  have RI : Hid (∀ W, Calls Try.prog 12 #[tv n b k] W fun e w' => e = .returned (.bool true) ∧ Below W.heap.size W w') := fun W => hM ▸ tright_any n b k W hkm
  have e1 : ((b : Int) == 4294967295) = true := by simp; omega
  have e4 : decide ((b : Int) < 4294967295) = false := by simp; omega
  have e7 : decide (m ≤ n) = true := by simp; omega
  have e8 : decide ((m : Int) ≤ (n : Int)) = true := by simp; omega
  clear hK hM hb9 hmn
  go_enter Try.func3, Try.ntmps3
  go_wp2_with fail
  refine (CU.out _).mono ?_
  rintro e w1 ⟨rfl, rfl⟩
  go_wp2_with fail
  refine (NE.out _).mono ?_
  rintro e w2 ⟨rfl, hb2⟩
  have kp2 := (Blk.new w 24 #[.int .u64 (n : Int), .int .u64 (b : Int), .string ⟨k.toArray⟩]).below hb2
  have hB2 := bt (ba (Below.refl _ _) _) hb2
  clear hb2
  have pp2 := Lib.hid kp2
  obtain ⟨⟨p0, p1, p2⟩, _, _, _⟩ := tcells (kp2.alloc (.cells #[.int .u64 0, .int .u64 0, .string ⟨k.toArray⟩] 24))
  go_wp2_with fail
  refine (BO.out _).mono ?_
  rintro e w3 ⟨rfl, hb3⟩
  have kp3 := (kp2.alloc (.cells #[.int .u64 0, .int .u64 0, .string ⟨k.toArray⟩] 24)).below hb3
  have kq3 := (Blk.new w2 24 #[.int .u64 0, .int .u64 0, .string ⟨k.toArray⟩]).below hb3
  have hB3 := bt (ba hB2 _) hb3
  clear hb3 kp2 hB2 p0 p1 p2 pp2
  obtain ⟨⟨p0, p1, p2⟩, _, _, _⟩ := tcells (kp3.alloc (.cells #[.int .u64 0, .int .u64 0, .string ⟨#[]⟩] 24))
  go_wp2_with fail
  refine (CO.out _).mono ?_
  rintro e w4 ⟨rfl, hb4⟩
  have kp4 := (kp3.alloc (.cells #[.int .u64 0, .int .u64 0, .string ⟨#[]⟩] 24)).below hb4
  have kq4 := (kq3.alloc (.cells #[.int .u64 0, .int .u64 0, .string ⟨#[]⟩] 24)).below hb4
  have kr4 := (Blk.new w3 24 #[.int .u64 0, .int .u64 0, .string ⟨#[]⟩]).below hb4
  have hB4 := bt (ba hB3 _) hb4
  clear hb4 kp3 kq3 hB3 p0 p1 p2
  have kp5 := kp4.alloc (.cells #[.int .u64 0, .int .u64 0, .string ⟨#[]⟩] 24)
  have kq5 := kq4.alloc (.cells #[.int .u64 0, .int .u64 0, .string ⟨#[]⟩] 24)
  have kr5 := kr4.alloc (.cells #[.int .u64 0, .int .u64 0, .string ⟨#[]⟩] 24)
  have ks5 := Blk.new w4 24 #[.int .u64 0, .int .u64 0, .string ⟨#[]⟩]
  have hB5 := ba hB4 (.cells #[.int .u64 0, .int .u64 0, .string ⟨#[]⟩] 24)
  clear kp4 kq4 kr4 hB4
  obtain ⟨⟨p0, p1, p2⟩, _, _, _⟩ := tcells kp5
  obtain ⟨⟨q0, q1, q2⟩, _, _, _⟩ := tcells kq5
  go_wp2_with fail
  refine (KE.out _).mono ?_
  rintro e w5 ⟨rfl, rfl⟩
  go_wp2_with fail
  refine (talive_any _).mono ?_
  rintro e w6 ⟨rfl, hb6⟩
  have kp6 := kp5.below hb6
  have kr6 := kr5.below hb6
  have ks6 := ks5.below hb6
  have hB6 := bt hB5 hb6
  clear hb6 kp5 kq5 kr5 ks5 hB5 p0 p1 p2 q0 q1 q2
  obtain ⟨⟨p0, p1, p2⟩, _, _, _⟩ := tcells kp6
  go_wp2_with fail
  refine (RI.out _).mono ?_
  rintro e w7 ⟨rfl, hb7⟩
  have kp7 := kp6.below hb7
  have kr7 := kr6.below hb7
  have ks7 := ks6.below hb7
  have hB7 := bt hB6 hb7
  clear hb7 kp6 kr6 ks6 hB6 p0 p1 p2
  obtain ⟨⟨p0, p1, p2⟩, _, _, _⟩ := tcells kp7
  obtain ⟨⟨r0, r1, r2⟩, _, _, _⟩ := tcells kr7
  obtain ⟨⟨s0, s1, s2⟩, _, _, _⟩ := tcells ks7
  clear kp7 kr7 ks7
  go_wp2
  go_ret
  exact ⟨by first | rfl | simp, hB7⟩

set_option maxRecDepth 100000 in
set_option maxHeartbeats 4000000 in
theorem slots_last_yes (n b m : Nat) (k0 : List UInt8) (w : World) (hk0 : (k0.length : Int) ≤ 9223372036854775807) (hK : keyB (k0.take 100) = true) (hM : mayB b (k0.take 100) = true) (hb9 : b = 4294967295) (hmn : n < m) :
    Calls Try.prog 3 #[tv n b k0, .int .u64 (m : Int)] w fun e w' => e = .returned (.bool true) ∧ Below w.heap.size w w' := by
  have CU := Lib.hid (fun W => tcut_any k0 W hk0)
  have hk1 : (k0.take 100).length ≤ 100 := by rw [List.length_take]; omega
  generalize k0.take 100 = k at *
  have hkm : (k.length : Int) ≤ 9223372036854775807 := by omega
  have NE : Hid (∀ W, Calls Try.prog 7 #[.string ⟨k.toArray⟩] W fun e w' => e = .returned (.tuple #[(.agg #[.int .u64 0, .int .u64 0, .string ⟨k.toArray⟩]), .int .i64 0]) ∧ Below W.heap.size W w') := fun W => tnew_yes k W hkm hK
  have BO : Hid (∀ W, Calls Try.prog 8 #[tv n b k] W fun e w' => e = .returned (.tuple #[(.agg #[.int .u64 0, .int .u64 0, .string ⟨#[]⟩]), .int .i64 2]) ∧ Below W.heap.size W w') := fun W => boot_last n b k W hkm hM hb9
  have CO : Hid (∀ W, Calls Try.prog 9 #[tv n b k, .int .u64 (m : Int)] W fun e w' => e = .returned (.tuple #[(.agg #[.int .u64 (m : Int), .int .u64 (b : Int), .string ⟨k.toArray⟩]), .int .i64 0]) ∧ Below W.heap.size W w') := fun W => commit_yes n b m k W hkm hM hmn
  have KE : Hid (∀ W, Calls Try.prog 10 #[.string ⟨k.toArray⟩] W fun e w' => e = .returned (.bool true) ∧ W = w') := fun W => hK ▸ tkey_any k W hkm
  have RI : Hid (∀ W, Calls Try.prog 12 #[tv n b k] W fun e w' => e = .returned (.bool true) ∧ Below W.heap.size W w') := fun W => hM ▸ tright_any n b k W hkm
  have e1 : ((b : Int) == 4294967295) = true := by simp; omega
  have e4 : decide ((b : Int) < 4294967295) = false := by simp; omega
  have e7 : decide (m ≤ n) = false := by simp; omega
  have e8 : decide ((m : Int) ≤ (n : Int)) = false := by simp; omega
  clear hK hM hb9 hmn
  go_enter Try.func3, Try.ntmps3
  go_wp2_with fail
  refine (CU.out _).mono ?_
  rintro e w1 ⟨rfl, rfl⟩
  go_wp2_with fail
  refine (NE.out _).mono ?_
  rintro e w2 ⟨rfl, hb2⟩
  have kp2 := (Blk.new w 24 #[.int .u64 (n : Int), .int .u64 (b : Int), .string ⟨k.toArray⟩]).below hb2
  have hB2 := bt (ba (Below.refl _ _) _) hb2
  clear hb2
  have pp2 := Lib.hid kp2
  obtain ⟨⟨p0, p1, p2⟩, _, _, _⟩ := tcells (kp2.alloc (.cells #[.int .u64 0, .int .u64 0, .string ⟨k.toArray⟩] 24))
  go_wp2_with fail
  refine (BO.out _).mono ?_
  rintro e w3 ⟨rfl, hb3⟩
  have kp3 := (kp2.alloc (.cells #[.int .u64 0, .int .u64 0, .string ⟨k.toArray⟩] 24)).below hb3
  have kq3 := (Blk.new w2 24 #[.int .u64 0, .int .u64 0, .string ⟨k.toArray⟩]).below hb3
  have hB3 := bt (ba hB2 _) hb3
  clear hb3 kp2 hB2 p0 p1 p2 pp2
  obtain ⟨⟨p0, p1, p2⟩, _, _, _⟩ := tcells (kp3.alloc (.cells #[.int .u64 0, .int .u64 0, .string ⟨#[]⟩] 24))
  go_wp2_with fail
  refine (CO.out _).mono ?_
  rintro e w4 ⟨rfl, hb4⟩
  have kp4 := (kp3.alloc (.cells #[.int .u64 0, .int .u64 0, .string ⟨#[]⟩] 24)).below hb4
  have kq4 := (kq3.alloc (.cells #[.int .u64 0, .int .u64 0, .string ⟨#[]⟩] 24)).below hb4
  have kr4 := (Blk.new w3 24 #[.int .u64 0, .int .u64 0, .string ⟨#[]⟩]).below hb4
  have hB4 := bt (ba hB3 _) hb4
  clear hb4 kp3 kq3 hB3 p0 p1 p2
  have kp5 := kp4.alloc (.cells #[.int .u64 (m : Int), .int .u64 (b : Int), .string ⟨k.toArray⟩] 24)
  have kq5 := kq4.alloc (.cells #[.int .u64 (m : Int), .int .u64 (b : Int), .string ⟨k.toArray⟩] 24)
  have kr5 := kr4.alloc (.cells #[.int .u64 (m : Int), .int .u64 (b : Int), .string ⟨k.toArray⟩] 24)
  have ks5 := Blk.new w4 24 #[.int .u64 (m : Int), .int .u64 (b : Int), .string ⟨k.toArray⟩]
  have hB5 := ba hB4 (.cells #[.int .u64 (m : Int), .int .u64 (b : Int), .string ⟨k.toArray⟩] 24)
  clear kp4 kq4 kr4 hB4
  obtain ⟨⟨p0, p1, p2⟩, _, _, _⟩ := tcells kp5
  obtain ⟨⟨q0, q1, q2⟩, _, _, _⟩ := tcells kq5
  go_wp2_with fail
  refine (KE.out _).mono ?_
  rintro e w5 ⟨rfl, rfl⟩
  go_wp2_with fail
  refine (talive_any _).mono ?_
  rintro e w6 ⟨rfl, hb6⟩
  have kp6 := kp5.below hb6
  have kr6 := kr5.below hb6
  have ks6 := ks5.below hb6
  have hB6 := bt hB5 hb6
  clear hb6 kp5 kq5 kr5 ks5 hB5 p0 p1 p2 q0 q1 q2
  obtain ⟨⟨p0, p1, p2⟩, _, _, _⟩ := tcells kp6
  go_wp2_with fail
  refine (RI.out _).mono ?_
  rintro e w7 ⟨rfl, hb7⟩
  have kp7 := kp6.below hb7
  have kr7 := kr6.below hb7
  have ks7 := ks6.below hb7
  have hB7 := bt hB6 hb7
  clear hb7 kp6 kr6 ks6 hB6 p0 p1 p2
  obtain ⟨⟨p0, p1, p2⟩, _, _, _⟩ := tcells kp7
  obtain ⟨⟨r0, r1, r2⟩, _, _, _⟩ := tcells kr7
  obtain ⟨⟨s0, s1, s2⟩, _, _, _⟩ := tcells ks7
  clear kp7 kr7 ks7
  go_wp2
  go_ret
  exact ⟨by first | rfl | simp, hB7⟩

set_option maxRecDepth 100000 in
set_option maxHeartbeats 4000000 in
theorem slots_low (n b m : Nat) (k0 : List UInt8) (w : World) (hk0 : (k0.length : Int) ≤ 9223372036854775807) (hK : keyB (k0.take 100) = true) (hM : mayB b (k0.take 100) = true) (hb9 : b < 4294967295) (hmn : m ≤ n) :
    Calls Try.prog 3 #[tv n b k0, .int .u64 (m : Int)] w fun e w' => e = .returned (.bool true) ∧ Below w.heap.size w w' := by
  have CU := Lib.hid (fun W => tcut_any k0 W hk0)
  have hk1 : (k0.take 100).length ≤ 100 := by rw [List.length_take]; omega
  generalize k0.take 100 = k at *
  have hkm : (k.length : Int) ≤ 9223372036854775807 := by omega
  have NE : Hid (∀ W, Calls Try.prog 7 #[.string ⟨k.toArray⟩] W fun e w' => e = .returned (.tuple #[(.agg #[.int .u64 0, .int .u64 0, .string ⟨k.toArray⟩]), .int .i64 0]) ∧ Below W.heap.size W w') := fun W => tnew_yes k W hkm hK
  obtain ⟨c, hc⟩ : ∃ c, b + 1 = c := ⟨_, rfl⟩
  have BO : Hid (∀ W, Calls Try.prog 8 #[tv n b k] W fun e w' => e = .returned (.tuple #[(.agg #[.int .u64 (n : Int), .int .u64 (c : Int), .string ⟨k.toArray⟩]), .int .i64 0]) ∧ Below W.heap.size W w') := fun W => hc ▸ boot_yes n b k W hkm hM hb9
  have CO : Hid (∀ W, Calls Try.prog 9 #[tv n b k, .int .u64 (m : Int)] W fun e w' => e = .returned (.tuple #[(.agg #[.int .u64 0, .int .u64 0, .string ⟨#[]⟩]), .int .i64 2]) ∧ Below W.heap.size W w') := fun W => commit_low n b m k W hkm hM hmn
  have KE : Hid (∀ W, Calls Try.prog 10 #[.string ⟨k.toArray⟩] W fun e w' => e = .returned (.bool true) ∧ W = w') := fun W => hK ▸ tkey_any k W hkm
  have RI : Hid (∀ W, Calls Try.prog 12 #[tv n b k] W fun e w' => e = .returned (.bool true) ∧ Below W.heap.size W w') := fun W => hM ▸ tright_any n b k W hkm
  have e1 : ((b : Int) == 4294967295) = false := by simp; omega
  have e2 : ((b : Int) + 1) % 18446744073709551616 = (c : Int) := by omega
  have e3 : IntKind.u64.wrap ((b : Int) + 1) = (c : Int) := by rw [IntKind.wrap_u64]; omega
  have e4 : decide ((b : Int) < 4294967295) = true := by simp; omega
  have e7 : decide (m ≤ n) = true := by simp; omega
  have e8 : decide ((m : Int) ≤ (n : Int)) = true := by simp; omega
  clear hK hM hb9 hc hmn
  go_enter Try.func3, Try.ntmps3
  go_wp2_with fail
  refine (CU.out _).mono ?_
  rintro e w1 ⟨rfl, rfl⟩
  go_wp2_with fail
  refine (NE.out _).mono ?_
  rintro e w2 ⟨rfl, hb2⟩
  have kp2 := (Blk.new w 24 #[.int .u64 (n : Int), .int .u64 (b : Int), .string ⟨k.toArray⟩]).below hb2
  have hB2 := bt (ba (Below.refl _ _) _) hb2
  clear hb2
  have pp2 := Lib.hid kp2
  obtain ⟨⟨p0, p1, p2⟩, _, _, _⟩ := tcells (kp2.alloc (.cells #[.int .u64 0, .int .u64 0, .string ⟨k.toArray⟩] 24))
  go_wp2_with fail
  refine (BO.out _).mono ?_
  rintro e w3 ⟨rfl, hb3⟩
  have kp3 := (kp2.alloc (.cells #[.int .u64 0, .int .u64 0, .string ⟨k.toArray⟩] 24)).below hb3
  have kq3 := (Blk.new w2 24 #[.int .u64 0, .int .u64 0, .string ⟨k.toArray⟩]).below hb3
  have hB3 := bt (ba hB2 _) hb3
  clear hb3 kp2 hB2 p0 p1 p2 pp2
  obtain ⟨⟨p0, p1, p2⟩, _, _, _⟩ := tcells (kp3.alloc (.cells #[.int .u64 (n : Int), .int .u64 (c : Int), .string ⟨k.toArray⟩] 24))
  go_wp2_with fail
  refine (CO.out _).mono ?_
  rintro e w4 ⟨rfl, hb4⟩
  have kp4 := (kp3.alloc (.cells #[.int .u64 (n : Int), .int .u64 (c : Int), .string ⟨k.toArray⟩] 24)).below hb4
  have kq4 := (kq3.alloc (.cells #[.int .u64 (n : Int), .int .u64 (c : Int), .string ⟨k.toArray⟩] 24)).below hb4
  have kr4 := (Blk.new w3 24 #[.int .u64 (n : Int), .int .u64 (c : Int), .string ⟨k.toArray⟩]).below hb4
  have hB4 := bt (ba hB3 _) hb4
  clear hb4 kp3 kq3 hB3 p0 p1 p2
  have kp5 := kp4.alloc (.cells #[.int .u64 0, .int .u64 0, .string ⟨#[]⟩] 24)
  have kq5 := kq4.alloc (.cells #[.int .u64 0, .int .u64 0, .string ⟨#[]⟩] 24)
  have kr5 := kr4.alloc (.cells #[.int .u64 0, .int .u64 0, .string ⟨#[]⟩] 24)
  have ks5 := Blk.new w4 24 #[.int .u64 0, .int .u64 0, .string ⟨#[]⟩]
  have hB5 := ba hB4 (.cells #[.int .u64 0, .int .u64 0, .string ⟨#[]⟩] 24)
  clear kp4 kq4 kr4 hB4
  obtain ⟨⟨p0, p1, p2⟩, _, _, _⟩ := tcells kp5
  obtain ⟨⟨q0, q1, q2⟩, _, _, _⟩ := tcells kq5
  go_wp2_with fail
  refine (KE.out _).mono ?_
  rintro e w5 ⟨rfl, rfl⟩
  go_wp2_with fail
  refine (talive_any _).mono ?_
  rintro e w6 ⟨rfl, hb6⟩
  have kp6 := kp5.below hb6
  have kr6 := kr5.below hb6
  have ks6 := ks5.below hb6
  have hB6 := bt hB5 hb6
  clear hb6 kp5 kq5 kr5 ks5 hB5 p0 p1 p2 q0 q1 q2
  obtain ⟨⟨p0, p1, p2⟩, _, _, _⟩ := tcells kp6
  go_wp2_with fail
  refine (RI.out _).mono ?_
  rintro e w7 ⟨rfl, hb7⟩
  have kp7 := kp6.below hb7
  have kr7 := kr6.below hb7
  have ks7 := ks6.below hb7
  have hB7 := bt hB6 hb7
  clear hb7 kp6 kr6 ks6 hB6 p0 p1 p2
  obtain ⟨⟨p0, p1, p2⟩, _, _, _⟩ := tcells kp7
  obtain ⟨⟨r0, r1, r2⟩, _, _, _⟩ := tcells kr7
  obtain ⟨⟨s0, s1, s2⟩, _, _, _⟩ := tcells ks7
  clear kp7 kr7 ks7
  go_wp2
  go_ret
  exact ⟨by first | rfl | simp, hB7⟩

set_option maxRecDepth 100000 in
set_option maxHeartbeats 4000000 in
theorem slots_yes (n b m : Nat) (k0 : List UInt8) (w : World) (hk0 : (k0.length : Int) ≤ 9223372036854775807) (hK : keyB (k0.take 100) = true) (hM : mayB b (k0.take 100) = true) (hb9 : b < 4294967295) (hmn : n < m) :
    Calls Try.prog 3 #[tv n b k0, .int .u64 (m : Int)] w fun e w' => e = .returned (.bool true) ∧ Below w.heap.size w w' := by
  have CU := Lib.hid (fun W => tcut_any k0 W hk0)
  have hk1 : (k0.take 100).length ≤ 100 := by rw [List.length_take]; omega
  generalize k0.take 100 = k at *
  have hkm : (k.length : Int) ≤ 9223372036854775807 := by omega
  have NE : Hid (∀ W, Calls Try.prog 7 #[.string ⟨k.toArray⟩] W fun e w' => e = .returned (.tuple #[(.agg #[.int .u64 0, .int .u64 0, .string ⟨k.toArray⟩]), .int .i64 0]) ∧ Below W.heap.size W w') := fun W => tnew_yes k W hkm hK
  obtain ⟨c, hc⟩ : ∃ c, b + 1 = c := ⟨_, rfl⟩
  have BO : Hid (∀ W, Calls Try.prog 8 #[tv n b k] W fun e w' => e = .returned (.tuple #[(.agg #[.int .u64 (n : Int), .int .u64 (c : Int), .string ⟨k.toArray⟩]), .int .i64 0]) ∧ Below W.heap.size W w') := fun W => hc ▸ boot_yes n b k W hkm hM hb9
  have CO : Hid (∀ W, Calls Try.prog 9 #[tv n b k, .int .u64 (m : Int)] W fun e w' => e = .returned (.tuple #[(.agg #[.int .u64 (m : Int), .int .u64 (b : Int), .string ⟨k.toArray⟩]), .int .i64 0]) ∧ Below W.heap.size W w') := fun W => commit_yes n b m k W hkm hM hmn
  have KE : Hid (∀ W, Calls Try.prog 10 #[.string ⟨k.toArray⟩] W fun e w' => e = .returned (.bool true) ∧ W = w') := fun W => hK ▸ tkey_any k W hkm
  have RI : Hid (∀ W, Calls Try.prog 12 #[tv n b k] W fun e w' => e = .returned (.bool true) ∧ Below W.heap.size W w') := fun W => hM ▸ tright_any n b k W hkm
  have e1 : ((b : Int) == 4294967295) = false := by simp; omega
  have e2 : ((b : Int) + 1) % 18446744073709551616 = (c : Int) := by omega
  have e3 : IntKind.u64.wrap ((b : Int) + 1) = (c : Int) := by rw [IntKind.wrap_u64]; omega
  have e4 : decide ((b : Int) < 4294967295) = true := by simp; omega
  have e7 : decide (m ≤ n) = false := by simp; omega
  have e8 : decide ((m : Int) ≤ (n : Int)) = false := by simp; omega
  clear hK hM hb9 hc hmn
  go_enter Try.func3, Try.ntmps3
  go_wp2_with fail
  refine (CU.out _).mono ?_
  rintro e w1 ⟨rfl, rfl⟩
  go_wp2_with fail
  refine (NE.out _).mono ?_
  rintro e w2 ⟨rfl, hb2⟩
  have kp2 := (Blk.new w 24 #[.int .u64 (n : Int), .int .u64 (b : Int), .string ⟨k.toArray⟩]).below hb2
  have hB2 := bt (ba (Below.refl _ _) _) hb2
  clear hb2
  have pp2 := Lib.hid kp2
  obtain ⟨⟨p0, p1, p2⟩, _, _, _⟩ := tcells (kp2.alloc (.cells #[.int .u64 0, .int .u64 0, .string ⟨k.toArray⟩] 24))
  go_wp2_with fail
  refine (BO.out _).mono ?_
  rintro e w3 ⟨rfl, hb3⟩
  have kp3 := (kp2.alloc (.cells #[.int .u64 0, .int .u64 0, .string ⟨k.toArray⟩] 24)).below hb3
  have kq3 := (Blk.new w2 24 #[.int .u64 0, .int .u64 0, .string ⟨k.toArray⟩]).below hb3
  have hB3 := bt (ba hB2 _) hb3
  clear hb3 kp2 hB2 p0 p1 p2 pp2
  obtain ⟨⟨p0, p1, p2⟩, _, _, _⟩ := tcells (kp3.alloc (.cells #[.int .u64 (n : Int), .int .u64 (c : Int), .string ⟨k.toArray⟩] 24))
  go_wp2_with fail
  refine (CO.out _).mono ?_
  rintro e w4 ⟨rfl, hb4⟩
  have kp4 := (kp3.alloc (.cells #[.int .u64 (n : Int), .int .u64 (c : Int), .string ⟨k.toArray⟩] 24)).below hb4
  have kq4 := (kq3.alloc (.cells #[.int .u64 (n : Int), .int .u64 (c : Int), .string ⟨k.toArray⟩] 24)).below hb4
  have kr4 := (Blk.new w3 24 #[.int .u64 (n : Int), .int .u64 (c : Int), .string ⟨k.toArray⟩]).below hb4
  have hB4 := bt (ba hB3 _) hb4
  clear hb4 kp3 kq3 hB3 p0 p1 p2
  have kp5 := kp4.alloc (.cells #[.int .u64 (m : Int), .int .u64 (b : Int), .string ⟨k.toArray⟩] 24)
  have kq5 := kq4.alloc (.cells #[.int .u64 (m : Int), .int .u64 (b : Int), .string ⟨k.toArray⟩] 24)
  have kr5 := kr4.alloc (.cells #[.int .u64 (m : Int), .int .u64 (b : Int), .string ⟨k.toArray⟩] 24)
  have ks5 := Blk.new w4 24 #[.int .u64 (m : Int), .int .u64 (b : Int), .string ⟨k.toArray⟩]
  have hB5 := ba hB4 (.cells #[.int .u64 (m : Int), .int .u64 (b : Int), .string ⟨k.toArray⟩] 24)
  clear kp4 kq4 kr4 hB4
  obtain ⟨⟨p0, p1, p2⟩, _, _, _⟩ := tcells kp5
  obtain ⟨⟨q0, q1, q2⟩, _, _, _⟩ := tcells kq5
  go_wp2_with fail
  refine (KE.out _).mono ?_
  rintro e w5 ⟨rfl, rfl⟩
  go_wp2_with fail
  refine (talive_any _).mono ?_
  rintro e w6 ⟨rfl, hb6⟩
  have kp6 := kp5.below hb6
  have kr6 := kr5.below hb6
  have ks6 := ks5.below hb6
  have hB6 := bt hB5 hb6
  clear hb6 kp5 kq5 kr5 ks5 hB5 p0 p1 p2 q0 q1 q2
  obtain ⟨⟨p0, p1, p2⟩, _, _, _⟩ := tcells kp6
  go_wp2_with fail
  refine (RI.out _).mono ?_
  rintro e w7 ⟨rfl, hb7⟩
  have kp7 := kp6.below hb7
  have kr7 := kr6.below hb7
  have ks7 := ks6.below hb7
  have hB7 := bt hB6 hb7
  clear hb7 kp6 kr6 ks6 hB6 p0 p1 p2
  obtain ⟨⟨p0, p1, p2⟩, _, _, _⟩ := tcells kp7
  obtain ⟨⟨r0, r1, r2⟩, _, _, _⟩ := tcells kr7
  obtain ⟨⟨s0, s1, s2⟩, _, _, _⟩ := tcells ks7
  clear kp7 kr7 ks7
  go_wp2
  go_ret
  exact ⟨by first | rfl | simp, hB7⟩

theorem slots_any (n b m : Nat) (k0 : List UInt8) (w : World) (hk0 : (k0.length : Int) ≤ 9223372036854775807) :
    Calls Try.prog 3 #[tv n b k0, .int .u64 (m : Int)] w fun e w' => e = .returned (.bool true) ∧ Below w.heap.size w w' := by
  cases hK : keyB (k0.take 100) with
  | false => exact slots_size n b m k0 w hk0 hK (by unfold mayB; rw [hK]; rfl)
  | true =>
    cases hM : mayB b (k0.take 100) with
    | false => exact slots_arg n b m k0 w hk0 hK hM
    | true =>
      have hb : b ≤ 4294967295 := by unfold mayB at hM; simp at hM; exact hM.2
      by_cases hl : b = 4294967295
      · by_cases hm : m ≤ n
        · exact slots_last_low n b m k0 w hk0 hK hM hl hm
        · exact slots_last_yes n b m k0 w hk0 hK hM hl (by omega)
      · by_cases hm : m ≤ n
        · exact slots_low n b m k0 w hk0 hK hM (by omega) hm
        · exact slots_yes n b m k0 w hk0 hK hM (by omega) (by omega)
end Go.Proofs.Ytilcondnpoinkaa
