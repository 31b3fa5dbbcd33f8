/- The contract of the reference's Encrypt. -/
import Derived.Test.YtodolffolbkaaaaARKeys
import Derived.Test.YtodolffolbkaaaaAEncT
namespace Go.Proofs.Ytodolffolbkaaaa
open Go.RowKit

theorem box_map16 {s : List UInt8} (h : s.length = 16) : s.map box8 = boxG s := by
  refine list_ext (n := 16) (by simp [h]) (tab_len _ _) fun i hi => ?_
  unfold boxG
  rw [ub_tab _ hi, ub_at (by rw [List.length_map, h]; exact hi), ub_at (by rw [h]; exact hi)]
  simp
theorem xorA_16 (A B : List UInt8) : xorA 16 A B = keyG A B := rfl
theorem keysL_at (key : List UInt8) (i : Nat) (h : i < key.length / 4 + 7) : (keysL key).getD i [] = keyAt (keysF key) i := by simp [keysL, List.getD, h]
theorem enc_first (last : Nat) (F s : List UInt8) : encN last F s 1 = keyG s (keyAt F 0) := rfl
theorem enc_last (F s : List UInt8) (i : Nat) (h : i ≠ 0) : encN i F s (i + 1) = keyG (turnG (boxG (encN i F s i))) (keyAt F i) := by
  show roundE i F (encN i F s i) i = _
  unfold roundE
  rw [if_neg h, if_pos rfl]
theorem enc_mid (last : Nat) (F s : List UInt8) (i : Nat) (h : i ≠ 0) (h2 : i ≠ last) : encN last F s (i + 1) = keyG (mixG (turnG (boxG (encN last F s i)))) (keyAt F i) := by
  show roundE last F (encN last F s i) i = _
  unfold roundE
  rw [if_neg h, if_neg h2]

set_option maxRecDepth 100000 in
set_option maxHeartbeats 4000000 in
theorem rEnc_any (key l : List UInt8) (w : World) (hk : key.length = 16 ∨ key.length = 32) (hl : l.length = 16) :
    Calls Try.prog 22 #[.string ⟨key.toArray⟩, .string ⟨l.toArray⟩] w fun e w' => e = .returned (.string ⟨(encL key l).toArray⟩) ∧ Below w.heap.size w w' := by
  have H1 := Lib.hid (rKeys_any key (key.length / 4 + 7) w hk rfl)
  have HAT := Lib.hid (keysL_at key)
  have HLL := Lib.hid (keysL_len key)
  have HRB : Hid (key.length / 4 + 7 ≤ 15 ∧ 11 ≤ key.length / 4 + 7) := Lib.hid (by omega)
  have HE : Hid (encN (key.length / 4 + 6) (keysF key) l (key.length / 4 + 7) = encL key l) := Lib.hid rfl
  have HL := Lib.hid hl
  obtain ⟨last, hla⟩ : ∃ x, key.length / 4 + 6 = x := ⟨_, rfl⟩
  have hn : key.length / 4 + 7 = last + 1 := by omega
  rw [hn] at H1 HAT HLL HRB HE
  rw [hla] at HE
  obtain ⟨F, hF⟩ : ∃ F, keysF key = F := ⟨_, rfl⟩
  rw [hF] at HAT HE
  obtain ⟨E, hE⟩ : ∃ E, encL key l = E := ⟨_, rfl⟩
  rw [hE] at HE ⊢
  generalize keysL key = D at H1 HLL HAT
  have HEL := Lib.hid (fun i => encN_len last F l hl i)
  have HE1 := Lib.hid (enc_first last F l)
  have HEA := Lib.hid (enc_last F l last)
  have HEM := Lib.hid (enc_mid last F l)
  have hl14 : (last : Int) ≤ 14 := by have := HRB.out; omega
  obtain ⟨n, hn1⟩ : ∃ n, last + 1 = n := ⟨_, rfl⟩
  have hnl : (last : Int) + 1 = (n : Int) := by omega
  rw [hn1] at H1 HAT HLL
  have HNL := Lib.hid hn1
  clear hk hn hla hF hE hn1 hl
  go_enter Try.func22, Try.ntmps22
  go_wp2_with fail
  refine H1.out.mono ?_
  rintro e w1 ⟨gw, cw, rfl, hw, hb1⟩
  have HGL : Hid (gw < w1.heap.size) := Lib.hid (hw.lt _ rfl).2
  have HCL : Hid (∀ j, j < n → w1.cell? ⟨gw, j, none⟩ = some (sv (keyAt F j))) := Lib.hid (fun j hj => by rw [hw.cellAt j (by omega), svs_at _ _ (by rw [HLL.out]; omega), HAT.out j hj])
  have hc0 := HCL.out 0 (by have := HNL.out; omega)
  have HX0 := Lib.hid (fun W => rXor_any l (keyAt F 0) 16 W HL.out (keyAt_len _ _) (by omega))
  rw [xorA_16, ← HE1.out] at HX0
  generalize keyAt F 0 = K0 at hc0 HX0
  have h0n : (0 : Int) < (n : Int) := by omega
  have HB1 := Lib.hid hb1
  clear hw hb1 H1
  go_wp2_with fail
  refine (HX0.out _).mono ?_
  rintro e w2 ⟨rfl, hb2⟩
  clear hc0
  go_wp2_with fail
  go_loopw [6, 7] (fun sv_ iv wr => ∃ i : Nat, 1 ≤ i ∧ i ≤ n ∧ iv = .int .i64 i ∧ sv_ = .string ⟨(encN last F l i).toArray⟩ ∧ Below w1.heap.size w1 wr) (fun _ iv _ => n - (intOf iv).toNat)
  case atStart => exact ⟨1, Nat.le_refl _, by omega, rfl, rfl, hb2⟩
  case round =>
    clear hb2
    obtain ⟨i, hi1, hin, rfl, rfl, hb⟩ := hrel
    by_cases hlt : i < n
    · have hii : (i : Int) < (n : Int) := by omega
      have hii1 : (1 : Int) ≤ (i : Int) := by omega
      have hc : wr.cell? ⟨gw, i, none⟩ = some (sv (keyAt F i)) := (hb.cell (p := ⟨gw, i, none⟩) HGL.out).trans (HCL.out i hlt)
      have hsl := HEL.out i
      have HBX : Hid (∀ W : World, Calls Try.prog 17 #[.string ⟨(encN last F l i).toArray⟩] W fun e w' => e = .returned (.string ⟨(boxG (encN last F l i)).toArray⟩) ∧ Below W.heap.size W w') := Lib.hid (fun W => by rw [← box_map16 hsl]; exact rBoxed_any _ W (by omega))
      have HTN := Lib.hid (fun W => rTurned_any (boxG (encN last F l i)) W (tab_len _ _))
      have HCW := Lib.hid (fun (W : World) (hW : Below w1.heap.size w1 W) => (hW.cell (p := ⟨gw, i, none⟩) HGL.out).trans (HCL.out i hlt))
      by_cases hil : i = last
      · have hea := HEA.out (by omega)
        rw [← hil] at hea
        have HXR := Lib.hid (fun W => rXor_any (turnG (boxG (encN last F l i))) (keyAt F i) 16 W (tab_len _ _) (keyAt_len _ _) (by omega))
        have HSS : Hid (xorA 16 (turnG (boxG (encN last F l i))) (keyAt F i) = encN last F l (i + 1)) := Lib.hid (by rw [xorA_16, ← hil, hea])
        rw [HSS.out] at HXR
        have e1 : (i : Int) + 1 = (n : Int) := by omega
        generalize turnG (boxG (encN last F l i)) = T at HTN HXR
        generalize boxG (encN last F l i) = B at HBX HTN
        generalize keyAt F i = K at HCW HXR
        have HIN : Hid (i + 1 = n) := Lib.hid (by omega)
        clear hea hsl HSS hil hc
        go_wp2_with fail
        refine (HBX.out _).mono ?_
        rintro e w3 ⟨rfl, hb3⟩
        go_wp2_with fail
        refine (HTN.out _).mono ?_
        rintro e w4 ⟨rfl, hb4⟩
        have hB4 := bt (bt hb hb3) hb4
        have hc := HCW.out _ hB4
        clear hb hb3 hb4
        go_wp2_with fail
        refine (HXR.out _).mono ?_
        rintro e w5 ⟨rfl, hb5⟩
        have hB5 := bt hB4 hb5
        clear hc hB4 hb5
        go_wp2_with fail
        exact ⟨⟨i + 1, by omega, by omega, by go_num, rfl, hB5⟩, by simp [intOf]; omega⟩
      · have hem := HEM.out i (by omega) hil
        have HXR := Lib.hid (fun W => rXor_any (mixG (turnG (boxG (encN last F l i)))) (keyAt F i) 16 W (tab_len _ _) (keyAt_len _ _) (by omega))
        have HMX := Lib.hid (fun W => rMixed_any (turnG (boxG (encN last F l i))) W (tab_len _ _))
        have HSS : Hid (xorA 16 (mixG (turnG (boxG (encN last F l i)))) (keyAt F i) = encN last F l (i + 1)) := Lib.hid (by rw [xorA_16, hem])
        rw [HSS.out] at HXR
        obtain ⟨j, hj⟩ : ∃ j, i + 1 = j := ⟨_, rfl⟩
        have e1 : (i : Int) + 1 = (j : Int) := by omega
        have e2 : (j : Int) < (n : Int) := by omega
        generalize mixG (turnG (boxG (encN last F l i))) = M at HMX HXR
        generalize turnG (boxG (encN last F l i)) = T at HTN HMX
        generalize boxG (encN last F l i) = B at HBX HTN
        generalize keyAt F i = K at HCW HXR
        have HIN := Lib.hid hj
        clear hem hsl HSS hj hil
        go_wp2_with fail
        refine (HBX.out _).mono ?_
        rintro e w3 ⟨rfl, hb3⟩
        go_wp2_with fail
        refine (HTN.out _).mono ?_
        rintro e w4 ⟨rfl, hb4⟩
        have hB4 := bt (bt hb hb3) hb4
        clear hb hb3 hb4 hc
        go_wp2_with fail
        refine (HMX.out _).mono ?_
        rintro e w6 ⟨rfl, hb6⟩
        have hB6 := bt hB4 hb6
        have hc := HCW.out _ hB6
        clear hB4 hb6
        go_wp2_with fail
        refine (HXR.out _).mono ?_
        rintro e w5 ⟨rfl, hb5⟩
        have hB5 := bt hB6 hb5
        clear hc hB6 hb5
        go_wp2_with fail
        exact ⟨⟨i + 1, by omega, by omega, by go_num, rfl, hB5⟩, by simp [intOf]; omega⟩
    · obtain rfl : i = n := by omega
      have hEE : encN last F l i = E := by rw [← HNL.out]; exact HE.out
      rw [hEE]
      have hbF := bt HB1.out hb
      clear hb
      go_wp2_with fail
      go_ret
      exact ⟨rfl, hbF⟩
end Go.Proofs.Ytodolffolbkaaaa
