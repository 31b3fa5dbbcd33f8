/- The walk of TrustKeys, four ways. -/
import Derived.Test.YtilcondnpoinkaaTLaw
import Derived.Deep.RegionHeld3
namespace Go.Proofs.Ytilcondnpoinkaa
open Go.RowKit

set_option maxRecDepth 100000 in
set_option maxHeartbeats 4000000 in
theorem tkeys_arg_short (n b : Nat) (k0 l1 l2 : List UInt8) (w : World) (hk0 : (k0.length : Int) ≤ 9223372036854775807) (hl1 : (l1.length : Int) ≤ 9223372036854775807) (hl2 : (l2.length : Int) ≤ 9223372036854775807) (hM : mayB b (k0.take 100) = false) (hn : l1.length ≤ 4096) :
    Calls Try.prog 4 #[tv n b k0, .string ⟨l1.toArray⟩, .string ⟨l2.toArray⟩] w fun e w' => e = .returned (.bool true) ∧ Below w.heap.size w w' := by
  have CU := Lib.hid (fun W => tcut_any k0 W hk0)
  have CT := Lib.hid (fun W => tcut_any l2 W hl2)
  have CN := Lib.hid (fun W => tcut_any l1 W hl1)
  have hk1 : (k0.take 100).length ≤ 100 := by rw [List.length_take]; omega
  have ht1 : (l2.take 100).length ≤ 100 := by rw [List.length_take]; omega
  have hn1 : (l1.take 100).length ≤ 100 := by rw [List.length_take]; omega
  have hz1 := size_mk l1
  generalize k0.take 100 = k at *
  generalize l2.take 100 = t at *
  generalize l1.take 100 = s at *
  have hz2 := size_mk s
  have hkm : (k.length : Int) ≤ 9223372036854775807 := by omega
  have WO := Lib.hid (fun W => tword_any k t W (by omega) (by omega))
  have RW := Lib.hid (fun W => rtword_any k t W (by omega) (by omega))
  generalize wordL k t = V at WO RW
  have RI : Hid (∀ W, Calls Try.prog 12 #[tv n b k] W fun e w' => e = .returned (.bool false) ∧ Below W.heap.size W w') := fun W => hM ▸ tright_any n b k W hkm
  have DE := Lib.hid (fun W => derive_no n b k s W hkm hM)
  obtain ⟨d, hd⟩ : ∃ d, s.length = d := ⟨_, rfl⟩
  rw [hd] at hz2 hn1
  obtain ⟨d1, hd1⟩ : ∃ d1, l1.length = d1 := ⟨_, rfl⟩
  rw [hd1] at hz1 hn
  have e1 : decide ((d1 : Int) ≤ 4096) = true := by simp; omega
  have e2 : decide ((4096 : Int) < (d : Int)) = false := by simp; omega
  have e3 : decide ((d : Int) > 4096) = false := by simp; omega
  clear hd hd1
  clear hM hk1 ht1 hl1 hl2 hk0
  go_enter Try.func4, Try.ntmps4
  go_wp2_with fail
  refine (CU.out _).mono ?_
  rintro e w1 ⟨rfl, rfl⟩
  go_wp2_with fail
  refine (CT.out _).mono ?_
  rintro e w2 ⟨rfl, rfl⟩
  go_wp2_with fail
  refine (CN.out _).mono ?_
  rintro e w3 ⟨rfl, rfl⟩
  go_wp2_with fail
  refine (DE.out _).mono ?_
  rintro e w4 ⟨rfl, hb4⟩
  have kp4 := (Blk.new w 24 #[.int .u64 (n : Int), .int .u64 (b : Int), .string ⟨k.toArray⟩]).below hb4
  have hB4 := bt (ba (Below.refl _ _) _) hb4
  clear hb4 CU CT CN DE
  have c2 : w4.cell? ⟨w.heap.size, 2, none⟩ = some (.string ⟨k.toArray⟩) := kp4.cell 2
  have KP := Lib.hid kp4
  clear kp4
  go_wp2_with fail
  go_region_held3 (fun W => W.cell? ⟨w.heap.size, 2, none⟩ = some (.string ⟨k.toArray⟩) ∧ Below w4.heap.size w4 W) (first | assumption | exact ⟨c2, (Below.refl _ _).drew⟩ | exact ⟨c2, Below.refl _ _⟩) (first
    | (go_at_call 14; (with_reducible refine (WO.out _).mono ?_); rintro e w5 ⟨rfl, hb5⟩; have hB5 := bt (Below.refl w4.heap.size w4).drew hb5; have hS5 : _ ∧ Below w4.heap.size w4 w5 := ⟨(KP.out.below hB5).cell 2, hB5⟩)
    | (go_at_call 15; (with_reducible refine (RW.out _).mono ?_); rintro e w6 ⟨rfl, hb6⟩; have hB6 := bt (by assumption : _ ∧ Below w4.heap.size w4 _).2 hb6; have hS6 : _ ∧ Below w4.heap.size w4 w6 := ⟨(KP.out.below hB6).cell 2, hB6⟩)
    | (go_at_call 11; (with_reducible refine (talive_any _).mono ?_); rintro e w7 ⟨rfl, hb7⟩; have hB7 := bt hB6 hb7; have hS7 : _ ∧ Below w4.heap.size w4 w7 := ⟨(KP.out.below hB7).cell 2, hB7⟩))
  have kp7 := KP.out.below hB7
  have hC7 := bt hB4 hB7
  obtain ⟨⟨p0, p1, p2⟩, _, _, _⟩ := tcells kp7
  go_wp2_with fail
  refine (RI.out _).mono ?_
  rintro e w8 ⟨rfl, hb8⟩
  have kp8 := kp7.below hb8
  have hC8 := bt hC7 hb8
  clear p0 p1 p2 kp7 hb8 hC7
  obtain ⟨⟨p0, p1, p2⟩, _, _, _⟩ := tcells kp8
  go_wp2
  go_ret
  exact ⟨by first | rfl | simp, hC8⟩

set_option maxRecDepth 100000 in
set_option maxHeartbeats 4000000 in
theorem tkeys_arg_long (n b : Nat) (k0 l1 l2 : List UInt8) (w : World) (hk0 : (k0.length : Int) ≤ 9223372036854775807) (hl1 : (l1.length : Int) ≤ 9223372036854775807) (hl2 : (l2.length : Int) ≤ 9223372036854775807) (hM : mayB b (k0.take 100) = false) (hn : 4096 < l1.length) :
    Calls Try.prog 4 #[tv n b k0, .string ⟨l1.toArray⟩, .string ⟨l2.toArray⟩] w fun e w' => e = .returned (.bool true) ∧ Below w.heap.size w w' := by
  have CU := Lib.hid (fun W => tcut_any k0 W hk0)
  have CT := Lib.hid (fun W => tcut_any l2 W hl2)
  have CN := Lib.hid (fun W => tcut_any l1 W hl1)
  have hk1 : (k0.take 100).length ≤ 100 := by rw [List.length_take]; omega
  have ht1 : (l2.take 100).length ≤ 100 := by rw [List.length_take]; omega
  have hn1 : (l1.take 100).length ≤ 100 := by rw [List.length_take]; omega
  have hz1 := size_mk l1
  generalize k0.take 100 = k at *
  generalize l2.take 100 = t at *
  generalize l1.take 100 = s at *
  have hz2 := size_mk s
  have hkm : (k.length : Int) ≤ 9223372036854775807 := by omega
  have WO := Lib.hid (fun W => tword_any k t W (by omega) (by omega))
  have RW := Lib.hid (fun W => rtword_any k t W (by omega) (by omega))
  generalize wordL k t = V at WO RW
  have RI : Hid (∀ W, Calls Try.prog 12 #[tv n b k] W fun e w' => e = .returned (.bool false) ∧ Below W.heap.size W w') := fun W => hM ▸ tright_any n b k W hkm
  have DE := Lib.hid (fun W => derive_no n b k l1 W hkm hM)
  obtain ⟨d1, hd1⟩ : ∃ d1, l1.length = d1 := ⟨_, rfl⟩
  rw [hd1] at hz1 hn
  have e1 : decide ((d1 : Int) ≤ 4096) = false := by simp; omega
  have e2 : decide ((4096 : Int) < (d1 : Int)) = true := by simp; omega
  have e3 : decide ((d1 : Int) > 4096) = true := by simp; omega
  clear hd1 hn1 hz2
  clear hM hk1 ht1 hl1 hl2 hk0
  go_enter Try.func4, Try.ntmps4
  go_wp2_with fail
  refine (CU.out _).mono ?_
  rintro e w1 ⟨rfl, rfl⟩
  go_wp2_with fail
  refine (CT.out _).mono ?_
  rintro e w2 ⟨rfl, rfl⟩
  go_wp2_with fail
  refine (DE.out _).mono ?_
  rintro e w4 ⟨rfl, hb4⟩
  have kp4 := (Blk.new w 24 #[.int .u64 (n : Int), .int .u64 (b : Int), .string ⟨k.toArray⟩]).below hb4
  have hB4 := bt (ba (Below.refl _ _) _) hb4
  clear hb4 CU CT CN DE
  have c2 : w4.cell? ⟨w.heap.size, 2, none⟩ = some (.string ⟨k.toArray⟩) := kp4.cell 2
  have KP := Lib.hid kp4
  clear kp4
  go_wp2_with fail
  go_region_held3 (fun W => W.cell? ⟨w.heap.size, 2, none⟩ = some (.string ⟨k.toArray⟩) ∧ Below w4.heap.size w4 W) (first | assumption | exact ⟨c2, (Below.refl _ _).drew⟩ | exact ⟨c2, Below.refl _ _⟩) (first
    | (go_at_call 14; (with_reducible refine (WO.out _).mono ?_); rintro e w5 ⟨rfl, hb5⟩; have hB5 := bt (Below.refl w4.heap.size w4).drew hb5; have hS5 : _ ∧ Below w4.heap.size w4 w5 := ⟨(KP.out.below hB5).cell 2, hB5⟩)
    | (go_at_call 15; (with_reducible refine (RW.out _).mono ?_); rintro e w6 ⟨rfl, hb6⟩; have hB6 := bt (by assumption : _ ∧ Below w4.heap.size w4 _).2 hb6; have hS6 : _ ∧ Below w4.heap.size w4 w6 := ⟨(KP.out.below hB6).cell 2, hB6⟩)
    | (go_at_call 11; (with_reducible refine (talive_any _).mono ?_); rintro e w7 ⟨rfl, hb7⟩; have hB7 := bt hB6 hb7; have hS7 : _ ∧ Below w4.heap.size w4 w7 := ⟨(KP.out.below hB7).cell 2, hB7⟩))
  have kp7 := KP.out.below hB7
  have hC7 := bt hB4 hB7
  obtain ⟨⟨p0, p1, p2⟩, _, _, _⟩ := tcells kp7
  go_wp2_with fail
  refine (RI.out _).mono ?_
  rintro e w8 ⟨rfl, hb8⟩
  have kp8 := kp7.below hb8
  have hC8 := bt hC7 hb8
  clear p0 p1 p2 kp7 hb8 hC7
  obtain ⟨⟨p0, p1, p2⟩, _, _, _⟩ := tcells kp8
  go_wp2
  go_ret
  exact ⟨by first | rfl | simp, hC8⟩

set_option maxRecDepth 100000 in
set_option maxHeartbeats 4000000 in
theorem tkeys_long (n b : Nat) (k0 l1 l2 : List UInt8) (w : World) (hk0 : (k0.length : Int) ≤ 9223372036854775807) (hl1 : (l1.length : Int) ≤ 9223372036854775807) (hl2 : (l2.length : Int) ≤ 9223372036854775807) (hM : mayB b (k0.take 100) = true) (hn : 4096 < l1.length) :
    Calls Try.prog 4 #[tv n b k0, .string ⟨l1.toArray⟩, .string ⟨l2.toArray⟩] w fun e w' => e = .returned (.bool true) ∧ Below w.heap.size w w' := by
  have CU := Lib.hid (fun W => tcut_any k0 W hk0)
  have CT := Lib.hid (fun W => tcut_any l2 W hl2)
  have CN := Lib.hid (fun W => tcut_any l1 W hl1)
  have hk1 : (k0.take 100).length ≤ 100 := by rw [List.length_take]; omega
  have ht1 : (l2.take 100).length ≤ 100 := by rw [List.length_take]; omega
  have hn1 : (l1.take 100).length ≤ 100 := by rw [List.length_take]; omega
  have hz1 := size_mk l1
  generalize k0.take 100 = k at *
  generalize l2.take 100 = t at *
  generalize l1.take 100 = s at *
  have hz2 := size_mk s
  have hkm : (k.length : Int) ≤ 9223372036854775807 := by omega
  have WO := Lib.hid (fun W => tword_any k t W (by omega) (by omega))
  have RW := Lib.hid (fun W => rtword_any k t W (by omega) (by omega))
  generalize wordL k t = V at WO RW
  have RI : Hid (∀ W, Calls Try.prog 12 #[tv n b k] W fun e w' => e = .returned (.bool true) ∧ Below W.heap.size W w') := fun W => hM ▸ tright_any n b k W hkm
  have DE := Lib.hid (fun W => derive_long n b k l1 W hkm hM hn (by omega))
  obtain ⟨d1, hd1⟩ : ∃ d1, l1.length = d1 := ⟨_, rfl⟩
  rw [hd1] at hz1 hn
  have e1 : decide ((d1 : Int) ≤ 4096) = false := by simp; omega
  have e2 : decide ((4096 : Int) < (d1 : Int)) = true := by simp; omega
  have e3 : decide ((d1 : Int) > 4096) = true := by simp; omega
  clear hd1 hn1 hz2
  clear hM hk1 ht1 hl1 hl2 hk0
  go_enter Try.func4, Try.ntmps4
  go_wp2_with fail
  refine (CU.out _).mono ?_
  rintro e w1 ⟨rfl, rfl⟩
  go_wp2_with fail
  refine (CT.out _).mono ?_
  rintro e w2 ⟨rfl, rfl⟩
  go_wp2_with fail
  refine (DE.out _).mono ?_
  rintro e w4 ⟨rfl, hb4⟩
  have kp4 := (Blk.new w 24 #[.int .u64 (n : Int), .int .u64 (b : Int), .string ⟨k.toArray⟩]).below hb4
  have hB4 := bt (ba (Below.refl _ _) _) hb4
  clear hb4 CU CT CN DE
  have c2 : w4.cell? ⟨w.heap.size, 2, none⟩ = some (.string ⟨k.toArray⟩) := kp4.cell 2
  have KP := Lib.hid kp4
  clear kp4
  go_wp2_with fail
  go_region_held3 (fun W => W.cell? ⟨w.heap.size, 2, none⟩ = some (.string ⟨k.toArray⟩) ∧ Below w4.heap.size w4 W) (first | assumption | exact ⟨c2, (Below.refl _ _).drew⟩ | exact ⟨c2, Below.refl _ _⟩) (first
    | (go_at_call 14; (with_reducible refine (WO.out _).mono ?_); rintro e w5 ⟨rfl, hb5⟩; have hB5 := bt (Below.refl w4.heap.size w4).drew hb5; have hS5 : _ ∧ Below w4.heap.size w4 w5 := ⟨(KP.out.below hB5).cell 2, hB5⟩)
    | (go_at_call 15; (with_reducible refine (RW.out _).mono ?_); rintro e w6 ⟨rfl, hb6⟩; have hB6 := bt (by assumption : _ ∧ Below w4.heap.size w4 _).2 hb6; have hS6 : _ ∧ Below w4.heap.size w4 w6 := ⟨(KP.out.below hB6).cell 2, hB6⟩)
    | (go_at_call 11; (with_reducible refine (talive_any _).mono ?_); rintro e w7 ⟨rfl, hb7⟩; have hB7 := bt hB6 hb7; have hS7 : _ ∧ Below w4.heap.size w4 w7 := ⟨(KP.out.below hB7).cell 2, hB7⟩))
  have kp7 := KP.out.below hB7
  have hC7 := bt hB4 hB7
  obtain ⟨⟨p0, p1, p2⟩, _, _, _⟩ := tcells kp7
  go_wp2_with fail
  refine (RI.out _).mono ?_
  rintro e w8 ⟨rfl, hb8⟩
  have kp8 := kp7.below hb8
  have hC8 := bt hC7 hb8
  clear p0 p1 p2 kp7 hb8 hC7
  obtain ⟨⟨p0, p1, p2⟩, _, _, _⟩ := tcells kp8
  go_wp2
  go_ret
  exact ⟨by first | rfl | simp, hC8⟩

set_option maxRecDepth 100000 in
set_option maxHeartbeats 4000000 in
theorem tkeys_ok (n b : Nat) (k0 l1 l2 : List UInt8) (w : World) (hk0 : (k0.length : Int) ≤ 9223372036854775807) (hl1 : (l1.length : Int) ≤ 9223372036854775807) (hl2 : (l2.length : Int) ≤ 9223372036854775807) (hM : mayB b (k0.take 100) = true) (hn : l1.length ≤ 4096) :
    Calls Try.prog 4 #[tv n b k0, .string ⟨l1.toArray⟩, .string ⟨l2.toArray⟩] w fun e w' => e = .returned (.bool true) ∧ Below w.heap.size w w' := by
  have CU := Lib.hid (fun W => tcut_any k0 W hk0)
  have CT := Lib.hid (fun W => tcut_any l2 W hl2)
  have CN := Lib.hid (fun W => tcut_any l1 W hl1)
  have hk1 : (k0.take 100).length ≤ 100 := by rw [List.length_take]; omega
  have ht1 : (l2.take 100).length ≤ 100 := by rw [List.length_take]; omega
  have hn1 : (l1.take 100).length ≤ 100 := by rw [List.length_take]; omega
  have hz1 := size_mk l1
  generalize k0.take 100 = k at *
  generalize l2.take 100 = t at *
  generalize l1.take 100 = s at *
  have hz2 := size_mk s
  have hkm : (k.length : Int) ≤ 9223372036854775807 := by omega
  have WO := Lib.hid (fun W => tword_any k t W (by omega) (by omega))
  have RW := Lib.hid (fun W => rtword_any k t W (by omega) (by omega))
  generalize wordL k t = V at WO RW
  have RI : Hid (∀ W, Calls Try.prog 12 #[tv n b k] W fun e w' => e = .returned (.bool true) ∧ Below W.heap.size W w') := fun W => hM ▸ tright_any n b k W hkm
  have DE := Lib.hid (fun W => derive_yes n b k s W hM (by omega))
  have RD := Lib.hid (fun W => rderive_any k s W (by unfold mayB at hM; simp at hM; exact hM.1) (by omega))
  generalize deriveL k s = D at DE RD
  obtain ⟨d, hd⟩ : ∃ d, s.length = d := ⟨_, rfl⟩
  rw [hd] at hz2 hn1
  obtain ⟨d1, hd1⟩ : ∃ d1, l1.length = d1 := ⟨_, rfl⟩
  rw [hd1] at hz1 hn
  have e1 : decide ((d1 : Int) ≤ 4096) = true := by simp; omega
  have e2 : decide ((4096 : Int) < (d : Int)) = false := by simp; omega
  have e3 : decide ((d : Int) > 4096) = false := by simp; omega
  clear hd hd1
  clear hM hk1 ht1 hl1 hl2 hk0
  go_enter Try.func4, Try.ntmps4
  go_wp2_with fail
  refine (CU.out _).mono ?_
  rintro e w1 ⟨rfl, rfl⟩
  go_wp2_with fail
  refine (CT.out _).mono ?_
  rintro e w2 ⟨rfl, rfl⟩
  go_wp2_with fail
  refine (CN.out _).mono ?_
  rintro e w3 ⟨rfl, rfl⟩
  go_wp2_with fail
  refine (DE.out _).mono ?_
  rintro e w4 ⟨rfl, hb4⟩
  have kp4 := (Blk.new w 24 #[.int .u64 (n : Int), .int .u64 (b : Int), .string ⟨k.toArray⟩]).below hb4
  have hB4 := bt (ba (Below.refl _ _) _) hb4
  clear hb4 CU CT CN DE
  have c2 : w4.cell? ⟨w.heap.size, 2, none⟩ = some (.string ⟨k.toArray⟩) := kp4.cell 2
  have KP := Lib.hid kp4
  clear kp4
  go_wp2_with fail
  go_region_held3 (fun W => W.cell? ⟨w.heap.size, 2, none⟩ = some (.string ⟨k.toArray⟩) ∧ Below w4.heap.size w4 W) (first | assumption | exact ⟨c2, (Below.refl _ _).drew⟩ | exact ⟨c2, Below.refl _ _⟩) (first
    | (go_at_call 14; (with_reducible refine (WO.out _).mono ?_); rintro e w5 ⟨rfl, hb5⟩; have hB5 := bt (Below.refl w4.heap.size w4).drew hb5; have hS5 : _ ∧ Below w4.heap.size w4 w5 := ⟨(KP.out.below hB5).cell 2, hB5⟩)
    | (go_at_call 15; (with_reducible refine (RW.out _).mono ?_); rintro e w6 ⟨rfl, hb6⟩; have hB6 := bt (by assumption : _ ∧ Below w4.heap.size w4 _).2 hb6; have hS6 : _ ∧ Below w4.heap.size w4 w6 := ⟨(KP.out.below hB6).cell 2, hB6⟩)
    | (go_at_call 11; (with_reducible refine (talive_any _).mono ?_); rintro e w7 ⟨rfl, hb7⟩; have hB7 := bt hB6 hb7; have hS7 : _ ∧ Below w4.heap.size w4 w7 := ⟨(KP.out.below hB7).cell 2, hB7⟩))
  have kp7 := KP.out.below hB7
  have hC7 := bt hB4 hB7
  obtain ⟨⟨p0, p1, p2⟩, _, _, _⟩ := tcells kp7
  go_wp2_with fail
  refine (RI.out _).mono ?_
  rintro e w8 ⟨rfl, hb8⟩
  have kp8 := kp7.below hb8
  have hC8 := bt hC7 hb8
  clear p0 p1 p2 kp7 hb8 hC7
  obtain ⟨⟨p0, p1, p2⟩, _, _, _⟩ := tcells kp8
  go_wp2_with fail
  refine (RD.out _).mono ?_
  rintro e w9 ⟨rfl, hb9⟩
  go_wp2
  go_ret
  exact ⟨by first | rfl | simp, bt hC8 hb9⟩

theorem tkeys_any (n b : Nat) (k0 l1 l2 : List UInt8) (w : World) (hk0 : (k0.length : Int) ≤ 9223372036854775807) (hl1 : (l1.length : Int) ≤ 9223372036854775807) (hl2 : (l2.length : Int) ≤ 9223372036854775807) :
    Calls Try.prog 4 #[tv n b k0, .string ⟨l1.toArray⟩, .string ⟨l2.toArray⟩] w fun e w' => e = .returned (.bool true) ∧ Below w.heap.size w w' := by
  cases hM : mayB b (k0.take 100) with
  | false =>
    by_cases hn : l1.length ≤ 4096
    · exact tkeys_arg_short n b k0 l1 l2 w hk0 hl1 hl2 hM hn
    · exact tkeys_arg_long n b k0 l1 l2 w hk0 hl1 hl2 hM (by omega)
  | true =>
    by_cases hn : l1.length ≤ 4096
    · exact tkeys_ok n b k0 l1 l2 w hk0 hl1 hl2 hM hn
    · exact tkeys_long n b k0 l1 l2 w hk0 hl1 hl2 hM (by omega)
end Go.Proofs.Ytilcondnpoinkaa
