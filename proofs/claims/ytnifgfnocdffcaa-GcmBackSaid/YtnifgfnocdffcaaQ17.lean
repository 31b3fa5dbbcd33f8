/- Texts of this seat, one behind the other: AREnc, KRef, KOpen, KROpen, Trod. -/
import Derived.Carry
import Derived.Test.YtnifgfnocdffcaaQ01
import Derived.Test.YtnifgfnocdffcaaQ08
import Derived.Test.YtnifgfnocdffcaaQ13
import Derived.Test.YtnifgfnocdffcaaQ14
import Derived.Test.YtnifgfnocdffcaaQ16
/- The contract of the reference's Encrypt. -/
namespace Go.Proofs.Ytnifgfnocdffcaa
open Go.RowKit

theorem box_map16 {s : List UInt8} (h : s.length = 16) : s.map box8 = boxG s := by
  refine list_ext (n := 16) (by simp [h]) (tab_len _ _) fun i hi => ?_
  unfold boxG
  rw [ub_tab _ hi, ub_at (by rw [List.length_map, h]; exact hi), ub_at (by rw [h]; exact hi)]
  simp
theorem xorA_16 (A B : List UInt8) : xorA 16 A B = keyG A B := rfl
theorem keysL_at (key : List UInt8) (i : Nat) (h : i < key.length / 4 + 7) : (keysL key).getD i [] = keyAt (keysF key) i := by simp [keysL, List.getD, h]
theorem enc_first (last : Nat) (F s : List UInt8) : encN last F s 1 = keyG s (keyAt F 0) := rfl
theorem enc_last (F s : List UInt8) (i : Nat) (h : i ≠ 0) : encN i F s (i + 1) = keyG (turnG (boxG (encN i F s i))) (keyAt F i) := by
  show roundE i F (encN i F s i) i = _
  unfold roundE
  rw [if_neg h, if_pos rfl]
theorem enc_mid (last : Nat) (F s : List UInt8) (i : Nat) (h : i ≠ 0) (h2 : i ≠ last) : encN last F s (i + 1) = keyG (mixG (turnG (boxG (encN last F s i)))) (keyAt F i) := by
  show roundE last F (encN last F s i) i = _
  unfold roundE
  rw [if_neg h, if_neg h2]

set_option maxRecDepth 100000 in
set_option maxHeartbeats 4000000 in
theorem rEnc_any (key l : List UInt8) (w : World) (hk : key.length = 16 ∨ key.length = 32) (hl : l.length = 16) :
    Calls Try.prog 23 #[.string ⟨key.toArray⟩, .string ⟨l.toArray⟩] w fun e w' => e = .returned (.string ⟨(encL key l).toArray⟩) ∧ Below w.heap.size w w' := by
  have H1 := Lib.hid (rKeys_any key (key.length / 4 + 7) w hk rfl)
  have HAT := Lib.hid (keysL_at key)
  have HLL := Lib.hid (keysL_len key)
  have HRB : Hid (key.length / 4 + 7 ≤ 15 ∧ 11 ≤ key.length / 4 + 7) := Lib.hid (by omega)
  have HE : Hid (encN (key.length / 4 + 6) (keysF key) l (key.length / 4 + 7) = encL key l) := Lib.hid rfl
  have HL := Lib.hid hl
  obtain ⟨last, hla⟩ : ∃ x, key.length / 4 + 6 = x := ⟨_, rfl⟩
  have hn : key.length / 4 + 7 = last + 1 := by omega
  rw [hn] at H1 HAT HLL HRB HE
  rw [hla] at HE
  obtain ⟨F, hF⟩ : ∃ F, keysF key = F := ⟨_, rfl⟩
  rw [hF] at HAT HE
  obtain ⟨E, hE⟩ : ∃ E, encL key l = E := ⟨_, rfl⟩
  rw [hE] at HE ⊢
  generalize keysL key = D at H1 HLL HAT
  have HEL := Lib.hid (fun i => encN_len last F l hl i)
  have HE1 := Lib.hid (enc_first last F l)
  have HEA := Lib.hid (enc_last F l last)
  have HEM := Lib.hid (enc_mid last F l)
  have hl14 : (last : Int) ≤ 14 := by have := HRB.out; omega
  obtain ⟨n, hn1⟩ : ∃ n, last + 1 = n := ⟨_, rfl⟩
  have hnl : (last : Int) + 1 = (n : Int) := by omega
  rw [hn1] at H1 HAT HLL
  have HNL := Lib.hid hn1
  clear hk hn hla hF hE hn1 hl
  go_enter Try.func23, Try.ntmps23
  go_wp2_with fail
  refine H1.out.mono ?_
  rintro e w1 ⟨gw, cw, rfl, hw, hb1⟩
  have HGL : Hid (gw < w1.heap.size) := Lib.hid (hw.lt _ rfl).2
  have HCL : Hid (∀ j, j < n → w1.cell? ⟨gw, j, none⟩ = some (sv (keyAt F j))) := Lib.hid (fun j hj => by rw [hw.cellAt j (by omega), svs_at _ _ (by rw [HLL.out]; omega), HAT.out j hj])
  have hc0 := HCL.out 0 (by have := HNL.out; omega)
  have HX0 := Lib.hid (fun W => rXor_any l (keyAt F 0) 16 W HL.out (keyAt_len _ _) (by omega))
  rw [xorA_16, ← HE1.out] at HX0
  generalize keyAt F 0 = K0 at hc0 HX0
  have h0n : (0 : Int) < (n : Int) := by omega
  have HB1 := Lib.hid hb1
  clear hw hb1 H1
  go_wp2_with fail
  refine (HX0.out _).mono ?_
  rintro e w2 ⟨rfl, hb2⟩
  clear hc0
  go_wp2_with fail
  go_loopw [6, 7] (fun sv_ iv wr => ∃ i : Nat, 1 ≤ i ∧ i ≤ n ∧ iv = .int .i64 i ∧ sv_ = .string ⟨(encN last F l i).toArray⟩ ∧ Below w1.heap.size w1 wr) (fun _ iv _ => n - (intOf iv).toNat)
  case atStart => exact ⟨1, Nat.le_refl _, by omega, rfl, rfl, hb2⟩
  case round =>
    clear hb2
    obtain ⟨i, hi1, hin, rfl, rfl, hb⟩ := hrel
    by_cases hlt : i < n
    · have hii : (i : Int) < (n : Int) := by omega
      have hii1 : (1 : Int) ≤ (i : Int) := by omega
      have hc : wr.cell? ⟨gw, i, none⟩ = some (sv (keyAt F i)) := (hb.cell (p := ⟨gw, i, none⟩) HGL.out).trans (HCL.out i hlt)
      have hsl := HEL.out i
      have HBX : Hid (∀ W : World, Calls Try.prog 45 #[.string ⟨(encN last F l i).toArray⟩] W fun e w' => e = .returned (.string ⟨(boxG (encN last F l i)).toArray⟩) ∧ Below W.heap.size W w') := Lib.hid (fun W => by rw [← box_map16 hsl]; exact rBoxed_any _ W (by omega))
      have HTN := Lib.hid (fun W => rTurned_any (boxG (encN last F l i)) W (tab_len _ _))
      have HCW := Lib.hid (fun (W : World) (hW : Below w1.heap.size w1 W) => (hW.cell (p := ⟨gw, i, none⟩) HGL.out).trans (HCL.out i hlt))
      by_cases hil : i = last
      · have hea := HEA.out (by omega)
        rw [← hil] at hea
        have HXR := Lib.hid (fun W => rXor_any (turnG (boxG (encN last F l i))) (keyAt F i) 16 W (tab_len _ _) (keyAt_len _ _) (by omega))
        have HSS : Hid (xorA 16 (turnG (boxG (encN last F l i))) (keyAt F i) = encN last F l (i + 1)) := Lib.hid (by rw [xorA_16, ← hil, hea])
        rw [HSS.out] at HXR
        have e1 : (i : Int) + 1 = (n : Int) := by omega
        generalize turnG (boxG (encN last F l i)) = T at HTN HXR
        generalize boxG (encN last F l i) = B at HBX HTN
        generalize keyAt F i = K at HCW HXR
        have HIN : Hid (i + 1 = n) := Lib.hid (by omega)
        clear hea hsl HSS hil hc
        go_wp2_with fail
        refine (HBX.out _).mono ?_
        rintro e w3 ⟨rfl, hb3⟩
        go_wp2_with fail
        refine (HTN.out _).mono ?_
        rintro e w4 ⟨rfl, hb4⟩
        have hB4 := bt (bt hb hb3) hb4
        have hc := HCW.out _ hB4
        clear hb hb3 hb4
        go_wp2_with fail
        refine (HXR.out _).mono ?_
        rintro e w5 ⟨rfl, hb5⟩
        have hB5 := bt hB4 hb5
        clear hc hB4 hb5
        go_wp2_with fail
        exact ⟨⟨i + 1, by omega, by omega, by go_num, rfl, hB5⟩, by simp [intOf]; omega⟩
      · have hem := HEM.out i (by omega) hil
        have HXR := Lib.hid (fun W => rXor_any (mixG (turnG (boxG (encN last F l i)))) (keyAt F i) 16 W (tab_len _ _) (keyAt_len _ _) (by omega))
        have HMX := Lib.hid (fun W => rMixed_any (turnG (boxG (encN last F l i))) W (tab_len _ _))
        have HSS : Hid (xorA 16 (mixG (turnG (boxG (encN last F l i)))) (keyAt F i) = encN last F l (i + 1)) := Lib.hid (by rw [xorA_16, hem])
        rw [HSS.out] at HXR
        obtain ⟨j, hj⟩ : ∃ j, i + 1 = j := ⟨_, rfl⟩
        have e1 : (i : Int) + 1 = (j : Int) := by omega
        have e2 : (j : Int) < (n : Int) := by omega
        generalize mixG (turnG (boxG (encN last F l i))) = M at HMX HXR
        generalize turnG (boxG (encN last F l i)) = T at HTN HMX
        generalize boxG (encN last F l i) = B at HBX HTN
        generalize keyAt F i = K at HCW HXR
        have HIN := Lib.hid hj
        clear hem hsl HSS hj hil
        go_wp2_with fail
        refine (HBX.out _).mono ?_
        rintro e w3 ⟨rfl, hb3⟩
        go_wp2_with fail
        refine (HTN.out _).mono ?_
        rintro e w4 ⟨rfl, hb4⟩
        have hB4 := bt (bt hb hb3) hb4
        clear hb hb3 hb4 hc
        go_wp2_with fail
        refine (HMX.out _).mono ?_
        rintro e w6 ⟨rfl, hb6⟩
        have hB6 := bt hB4 hb6
        have hc := HCW.out _ hB6
        clear hB4 hb6
        go_wp2_with fail
        refine (HXR.out _).mono ?_
        rintro e w5 ⟨rfl, hb5⟩
        have hB5 := bt hB6 hb5
        clear hc hB6 hb5
        go_wp2_with fail
        exact ⟨⟨i + 1, by omega, by omega, by go_num, rfl, hB5⟩, by simp [intOf]; omega⟩
    · obtain rfl : i = n := by omega
      have hEE : encN last F l i = E := by rw [← HNL.out]; exact HE.out
      rw [hEE]
      have hbF := bt HB1.out hb
      clear hb
      go_wp2_with fail
      go_ret
      exact ⟨rfl, hbF⟩
end Go.Proofs.Ytnifgfnocdffcaa
/- The contracts of the reference's May, Stream, Tag and Seal. -/
namespace Go.Proofs.Ytnifgfnocdffcaa
open Go.RowKit

set_option maxRecDepth 100000 in
set_option maxHeartbeats 2000000 in
theorem rmay_any (key nonce : List UInt8) (w : World) : Calls Try.prog 9 #[.string ⟨key.toArray⟩, .string ⟨nonce.toArray⟩] w fun e w' => e = .returned (.bool (kfit key nonce)) ∧ w = w' := by
  have hsb := size_of nonce
  obtain ⟨m, hm⟩ : ∃ m, nonce.length = m := ⟨_, rfl⟩
  unfold kfit
  rw [hm] at hsb ⊢
  clear hm
  by_cases h1 : key.length = 16 ∨ key.length = 32
  · have H1 := Lib.hid (fun W => rKey_yes key W h1)
    by_cases h2 : m = 12
    · subst h2
      have e3 : decide ((key.length = 16 ∨ key.length = 32) ∧ 12 = 12) = true := by simp [h1]
      rw [e3]
      clear e3 h1
      go_enter Try.func9, Try.ntmps9
      go_wp2_with fail
      refine (H1.out _).mono ?_
      rintro e w1 ⟨rfl, rfl⟩
      go_wp2
      go_ret
      exact ⟨rfl, rfl⟩
    · have e2 : ((m : Int) == 12) = false := by simp; omega
      have e3 : decide ((key.length = 16 ∨ key.length = 32) ∧ m = 12) = false := by simp [h2]
      rw [e3]
      clear e3 h1
      go_enter Try.func9, Try.ntmps9
      go_wp2_with fail
      refine (H1.out _).mono ?_
      rintro e w1 ⟨rfl, rfl⟩
      go_wp2
      go_ret
      exact ⟨rfl, rfl⟩
  · have H1 := Lib.hid (fun W => rKey_no key W h1)
    have e3 : decide ((key.length = 16 ∨ key.length = 32) ∧ m = 12) = false := by simp [h1]
    rw [e3]
    clear e3 h1
    go_enter Try.func9, Try.ntmps9
    go_wp2_with fail
    refine (H1.out _).mono ?_
    rintro e w1 ⟨rfl, rfl⟩
    go_wp2
    go_ret
    exact ⟨rfl, rfl⟩

theorem strB_more {E : List UInt8 → List UInt8} {nonce : List UInt8} {c k : Nat} : strB E nonce c (k + 1) = strB E nonce c k ++ E (nonce ++ be4 ((c + k) % 4294967296)) := by rw [be4_mod]; rfl
theorem kextract0 (l : List UInt8) (m : Nat) : (⟨l.toArray⟩ : ByteArray).extract 0 m = ⟨(l.take m).toArray⟩ := extract_take l m
set_option maxRecDepth 100000 in
set_option maxHeartbeats 4000000 in
theorem rstream_any (key nonce : List UInt8) (c n : Nat) (w : World) (hk : key.length = 16 ∨ key.length = 32) (hn12 : nonce.length = 12) (hc : c < 4294967296) (hn : n ≤ 96) :
    Calls Try.prog 11 #[.string ⟨key.toArray⟩, .string ⟨nonce.toArray⟩, .int .u32 (c : Int), .int .i64 (n : Int)] w fun e w' => e = .returned (.string ⟨(strL (encL key) nonce c n).toArray⟩) ∧ Below w.heap.size w w' := by
  have hE := encL_blk key nonce hn12
  have HSL := Lib.hid (fun k => strB_len (c := c) hE k)
  have HC := Lib.hid (fun x W (hx : x < 4294967296) => kcounter_any x W hx)
  have HE1 := Lib.hid (fun x W => rEnc_any key (nonce ++ be4 x) W hk (by rw [List.length_append, hn12, be4_len]))
  have HA1 := Lib.hid (fun x (W : World) => run_string_add_lists (P := Try.prog) W nonce (be4 x) (by omega) (by rw [be4_len]; omega))
  have HA2 := Lib.hid (fun k x (W : World) (hk : k ≤ 6) => run_string_add_lists (P := Try.prog) W (strB (encL key) nonce c k) (encL key (nonce ++ be4 x)) (by rw [HSL.out]; omega) (by rw [hE]; omega))
  have HMORE := Lib.hid (fun k => strB_more (E := encL key) (nonce := nonce) (c := c) (k := k))
  have HEND : Hid (∀ k, 16 * k < n + 16 → n ≤ 16 * k → (strB (encL key) nonce c k).take n = strL (encL key) nonce c n) := Lib.hid (fun k h1 h2 => by
    unfold strL
    rw [show (n + 15) / 16 = k by omega])
  generalize strL (encL key) nonce c n = R at HEND ⊢
  have HC0 : Hid (c < 4294967296) := Lib.hid hc
  clear hk hn12 hE
  go_enter Try.func11, Try.ntmps11
  go_wp2_with fail
  go_loopw [2, 9] (fun cv ov wr => ∃ k : Nat, 16 * k < n + 16 ∧ cv = .int .u32 (((c + k) % 4294967296 : Nat) : Int) ∧ ov = .string ⟨(strB (encL key) nonce c k).toArray⟩ ∧ Below w.heap.size w wr) (fun _ ov _ => n - (match ov with | .string s => s.size | _ => 0))
  case atStart => exact ⟨0, by omega, by rw [Nat.add_zero, Nat.mod_eq_of_lt HC0.out], rfl, Below.refl _ _⟩
  case round =>
    obtain ⟨k, hk, rfl, rfl, hb⟩ := hrel
    have hsz := size_of (strB (encL key) nonce c k)
    rw [HSL.out] at hsz
    have HM := Lib.hid (HMORE.out k)
    have hkk : k ≤ 6 := by omega
    have HA2k := Lib.hid (fun x W => HA2.out k x W hkk)
    have hsz2 := size_of (strB (encL key) nonce c (k + 1))
    rw [HSL.out] at hsz2
    have hnx : (c + (k + 1)) % 4294967296 = ((c + k) % 4294967296 + 1) % 4294967296 := by omega
    by_cases hlt : 16 * k < n
    · obtain ⟨x, hx⟩ : ∃ x, (c + k) % 4294967296 = x := ⟨_, rfl⟩
      have hx32 : x < 4294967296 := by omega
      rw [hx] at HM hnx ⊢
      have HCX := Lib.hid (fun W => HC.out x W hx32)
      have HEX := Lib.hid (fun W => HE1.out x W)
      have ha1 := fun W => HA1.out x W
      have ha2 := fun W => HA2k.out x W
      rw [← HM.out] at ha2
      obtain ⟨y, hy⟩ : ∃ y, (x + 1) % 4294967296 = y := ⟨_, rfl⟩
      have hyy : ((x : Int) + 1) % 4294967296 = (y : Int) := by omega
      have HY : Hid (y = (c + (k + 1)) % 4294967296) := Lib.hid (by rw [hnx, hy])
      generalize encL key (nonce ++ be4 x) = EX at HEX ha2
      generalize nonce ++ be4 x = NX at HEX ha1
      generalize be4 x = BX at HCX ha1
      obtain ⟨S1, hS1⟩ : ∃ S1, strB (encL key) nonce c (k + 1) = S1 := ⟨_, rfl⟩
      have HS1 := Lib.hid hS1
      rw [hS1] at ha2 hsz2
      generalize strB (encL key) nonce c k = S0 at ha2 hsz ⊢
      obtain ⟨q, hq⟩ : ∃ q, 16 * k = q := ⟨_, rfl⟩
      have HQ := Lib.hid hq
      rw [hq] at hsz
      have hlt2 : (q : Int) < (n : Int) := by omega
      have HSZ2 := Lib.hid hsz2
      have HSZ := Lib.hid hsz
      clear HC HE1 HA1 HA2 HA2k HMORE HEND HSL HM hx hnx hx32 hy hS1 hq hsz2 hlt
      go_wp2_with fail
      refine (HCX.out _).mono ?_
      rintro e w1 ⟨rfl, hb1⟩
      go_wp2_with fail
      refine (HEX.out _).mono ?_
      rintro e w2 ⟨rfl, hb2⟩
      have hB2 := bt (bt hb hb1) hb2
      go_wp2_with fail
      exact ⟨⟨k + 1, by have := HQ.out; omega, by rw [← HY.out, ← hyy], by rw [HS1.out], hB2⟩, by have := HQ.out; have h1 := HSZ.out; have h2 := HSZ2.out; simp only [h1, h2]; omega⟩
    · have hlt2 : ¬ (((16 * k : Nat) : Int) < (n : Int)) := by omega
      have hend := HEND.out k hk (by omega)
      have hx := kextract0 (strB (encL key) nonce c k) n
      rw [hend] at hx
      generalize strB (encL key) nonce c k = S0 at hx hsz ⊢
      obtain ⟨q, hq⟩ : ∃ q, 16 * k = q := ⟨_, rfl⟩
      rw [hq] at hsz hlt2
      have hnq : n ≤ q := by omega
      have hnq2 : (n : Int) ≤ (q : Int) := by omega
      clear HC HE1 HA1 HA2 HA2k HMORE HEND HSL HM hnx hq hsz2 hlt hend
      go_wp2_with fail
      go_ret
      exact ⟨rfl, hb⟩

theorem zeros_conv (W : World) : (convert 37 9 (.slice (some ⟨W.heap.size, 0, none⟩) 16 16)).run Try.prog (W.alloc (.cells #[.int .u8 0, .int .u8 0, .int .u8 0, .int .u8 0, .int .u8 0, .int .u8 0, .int .u8 0, .int .u8 0, .int .u8 0, .int .u8 0, .int .u8 0, .int .u8 0, .int .u8 0, .int .u8 0, .int .u8 0, .int .u8 0] 5)) = .ok (.string ⟨gzeros.toArray⟩) (W.alloc (.cells #[.int .u8 0, .int .u8 0, .int .u8 0, .int .u8 0, .int .u8 0, .int .u8 0, .int .u8 0, .int .u8 0, .int .u8 0, .int .u8 0, .int .u8 0, .int .u8 0, .int .u8 0, .int .u8 0, .int .u8 0, .int .u8 0] 5)) := by
  refine run_convert_bytes_back (P := Try.prog) (W.alloc (.cells #[.int .u8 0, .int .u8 0, .int .u8 0, .int .u8 0, .int .u8 0, .int .u8 0, .int .u8 0, .int .u8 0, .int .u8 0, .int .u8 0, .int .u8 0, .int .u8 0, .int .u8 0, .int .u8 0, .int .u8 0, .int .u8 0] 5)) 37 9 5 ⟨W.heap.size, 0, none⟩ 16 gzeros Try.underlying37 Try.underlying5 Try.underlying9 (fun j hj => ?_)
  rw [Addr.add_mid, Nat.zero_add]
  have h := (Blk.new W 5 #[.int .u8 0, .int .u8 0, .int .u8 0, .int .u8 0, .int .u8 0, .int .u8 0, .int .u8 0, .int .u8 0, .int .u8 0, .int .u8 0, .int .u8 0, .int .u8 0, .int .u8 0, .int .u8 0, .int .u8 0, .int .u8 0]).cell j
  rw [h]
  exact (row_at (L := gzeros) hj).trans (by rw [ub_at hj])
set_option maxRecDepth 100000 in
set_option maxHeartbeats 2000000 in
theorem rtag_any8 (key nonce head t : List UInt8) (w : World) (hk : key.length = 16 ∨ key.length = 32) (hn : nonce.length = 12) (hh : head.length ≤ 80) (ht : t.length ≤ 80) :
    Calls Try.prog 27 #[.string ⟨key.toArray⟩, .string ⟨nonce.toArray⟩, .string ⟨head.toArray⟩, .string ⟨t.toArray⟩] w fun e w' => e = .returned (.string ⟨(tagL (encL key) nonce head t).toArray⟩) ∧ Below w.heap.size w w' := by
  have H2 := Lib.hid (fun W => rEnc_any key gzeros W hk gzeros_blk)
  have H3 := Lib.hid (fun W => rsum_any (encL key gzeros) head t W (encL_len _ _ gzeros_blk) hh ht)
  have H4 := Lib.hid (fun W => rstream_any key nonce 1 16 W hk hn (by omega) (by omega))
  have H5 := Lib.hid (fun W => grXor_any (sumL (encL key gzeros) head t) (strL (encL key) nonce 1 16) 16 W (sumL_len _ _ _) (strL_len (encL_blk key nonce hn) _) (by omega))
  rw [gxorA_is (sumL_len _ _ _)] at H5
  have HE : Hid (xorL (sumL (encL key gzeros) head t) (strL (encL key) nonce 1 16) = tagL (encL key) nonce head t) := Lib.hid rfl
  rw [HE.out] at H5
  have hcv := fun W => zeros_conv W
  generalize tagL (encL key) nonce head t = R at H5 ⊢
  generalize strL (encL key) nonce 1 16 = T at H4 H5
  generalize sumL (encL key gzeros) head t = S at H3 H5
  generalize encL key gzeros = Z at H2 H3
  generalize gzeros = G at hcv H2
  clear HE hk hn hh ht
  go_enter Try.func27, Try.ntmps27
  go_wp2_with fail
  refine (H2.out _).mono ?_
  rintro e w2 ⟨rfl, hb2⟩
  have hB2 := bt (ba (Below.refl _ _) _) hb2
  clear hb2
  go_wp2_with fail
  refine (H3.out _).mono ?_
  rintro e w3 ⟨rfl, hb3⟩
  go_wp2_with fail
  refine (H4.out _).mono ?_
  rintro e w4 ⟨rfl, hb4⟩
  go_wp2_with fail
  refine (H5.out _).mono ?_
  rintro e w5 ⟨rfl, hb5⟩
  go_wp2_with fail
  go_ret
  exact ⟨rfl, bt (bt (bt hB2 hb3) hb4) hb5⟩
set_option maxRecDepth 100000 in
set_option maxHeartbeats 2000000 in
theorem rseal_any (key nonce head t : List UInt8) (w : World) (hk : key.length = 16 ∨ key.length = 32) (hn : nonce.length = 12) (hh : head.length ≤ 80) (ht : t.length ≤ 80) :
    Calls Try.prog 13 #[.string ⟨key.toArray⟩, .string ⟨nonce.toArray⟩, .string ⟨head.toArray⟩, .string ⟨t.toArray⟩] w fun e w' => e = .returned (.string ⟨(sealL (encL key) nonce head t).toArray⟩) ∧ Below w.heap.size w w' := by
  have H4 := Lib.hid (fun W => rstream_any key nonce 2 t.length W hk hn (by omega) (by omega))
  have H5 := Lib.hid (fun W => grXor_any t (strL (encL key) nonce 2 t.length) t.length W rfl (strL_len (encL_blk key nonce hn) _) (by omega))
  rw [gxorA_is rfl] at H5
  have HE : Hid (xorL t (strL (encL key) nonce 2 t.length) = ctL (encL key) nonce t) := Lib.hid rfl
  rw [HE.out] at H5
  have H6 := Lib.hid (fun W => rtag_any8 key nonce head (ctL (encL key) nonce t) W hk hn hh (by rw [ctL_len]; exact ht))
  have had := fun (W : World) => run_string_add_lists (P := Try.prog) W (ctL (encL key) nonce t) (tagL (encL key) nonce head (ctL (encL key) nonce t)) (by rw [ctL_len]; omega) (by rw [tagL_len]; omega)
  rw [show ctL (encL key) nonce t ++ tagL (encL key) nonce head (ctL (encL key) nonce t) = sealL (encL key) nonce head t from rfl] at had
  have hst := size_of t
  generalize sealL (encL key) nonce head t = R at had ⊢
  generalize tagL (encL key) nonce head (ctL (encL key) nonce t) = T at H6 had
  generalize ctL (encL key) nonce t = C at H5 H6 had
  obtain ⟨n, hnn⟩ : ∃ n, t.length = n := ⟨_, rfl⟩
  rw [hnn] at hst H4 H5
  generalize strL (encL key) nonce 2 n = S at H4 H5
  clear HE hk hn hh ht hnn
  go_enter Try.func13, Try.ntmps13
  go_wp2_with fail
  refine (H4.out _).mono ?_
  rintro e w2 ⟨rfl, hb2⟩
  go_wp2_with fail
  refine (H5.out _).mono ?_
  rintro e w3 ⟨rfl, hb3⟩
  go_wp2_with fail
  refine (H6.out _).mono ?_
  rintro e w4 ⟨rfl, hb4⟩
  go_wp2_with fail
  go_ret
  exact ⟨rfl, bt (bt hb2 hb3) hb4⟩
end Go.Proofs.Ytnifgfnocdffcaa
/- The contract of Open. -/
namespace Go.Proofs.Ytnifgfnocdffcaa
open Go.RowKit

theorem kextract (l : List UInt8) (a b : Nat) : (⟨l.toArray⟩ : ByteArray).extract a b = ⟨((l.take b).drop a).toArray⟩ := by
  apply ByteArray.ext
  apply Array.toList_inj.1
  rw [Lib.extract_data]
  simp [List.drop_take]
theorem kdrew {w w1 : World} (h : Below w.drew.heap.size w.drew w1) : Below w.heap.size w w1 := (Below.refl w.heap.size w).drew.trans h
/-- What Open tells. -/
def openR (o : Option (List UInt8)) : Value := .tuple #[.string ⟨(o.getD []).toArray⟩, .int .i64 (if o.isSome then 0 else 5)]
set_option maxRecDepth 100000 in
set_option maxHeartbeats 4000000 in
theorem open_yes (key nonce head s : List UInt8) (w : World) (hf : kfit key nonce = true) (hh : head.length ≤ 80) (h16 : 16 ≤ s.length) (hs : s.length ≤ 96) :
    Calls Try.prog 14 #[.string ⟨key.toArray⟩, .string ⟨nonce.toArray⟩, .string ⟨head.toArray⟩, .string ⟨s.toArray⟩] w fun e w' => e = .returned (openR (openL (encL key) nonce head s)) ∧ Below w.heap.size w w' := by
  have H1 := Lib.hid (fun W => fit_any key nonce W)
  rw [hf] at H1
  obtain ⟨hk, hn12⟩ := kfit_yes hf
  obtain ⟨n, hn⟩ : ∃ n, s.length = n + 16 := ⟨s.length - 16, by omega⟩
  have hn2 : s.length - 16 = n := by omega
  have htl : (s.take n).length = n := by rw [List.length_take]; omega
  have hC : ksx (encL key) nonce 2 (s.take n) = ctL (encL key) nonce (s.take n) := ksx_is (encL_blk key nonce hn12) _
  have H3 := Lib.hid (fun W => streamOf_any key nonce 2 W)
  have H4 := Lib.hid (fun g W hW => changed_any key nonce (s.take n) 2 g W hk hn12 (by omega) (by omega) hW)
  rw [hC] at H4
  have H5 := Lib.hid (fun W => tagOf_any key nonce head (s.take n) W hk hn12 hh (by omega))
  have hx1 := kextract s 0 n
  rw [List.drop_zero] at hx1
  have hx2 := kextract s n (n + 16)
  rw [List.take_of_length_le (by omega)] at hx2
  have hss := size_of s
  have hsh := size_of head
  rw [hn] at hss
  obtain ⟨q, hq⟩ : ∃ q, n + 16 = q := ⟨_, rfl⟩
  obtain ⟨m, hm⟩ : ∃ m, head.length = m := ⟨_, rfl⟩
  rw [hq] at hss hx2
  rw [hm] at hsh hh
  have m5 : (m : Int) ≤ 4096 := by omega
  have e1 : (q : Int) - 16 = (n : Int) := by omega
  have e2 : (q : Int) ≤ 4112 := by omega
  have e3 : (0 : Int) ≤ (n : Int) := by omega
  have e4 : n ≤ q := by omega
  have e5 : (n : Int) ≤ (q : Int) := by omega
  unfold openL
  rw [hn2]
  generalize ctL (encL key) nonce (s.take n) = C at H4 ⊢
  generalize tagL (encL key) nonce head (s.take n) = T at H5 ⊢
  generalize s.drop n = D at hx2 ⊢
  generalize s.take n = P at H4 H5 hx1
  clear hf hk hn12 hh h16 hs hn hn2 htl hC hq hm
  by_cases hTD : T = D
  · subst hTD
    rw [if_pos rfl]
    go_enter Try.func14, Try.ntmps14
    go_wp2_with fail
    refine (H1.out _).mono ?_
    rintro e w1 ⟨rfl, rfl⟩
    go_wp2_with fail
    go_region_held3 (fun _ => True) (trivial) (first | (go_at_call 25; refine (H5.out _).mono ?_; rintro e w5 ⟨rfl, hb5⟩))
    have z5 := kdrew hb5
    clear H5 H1
    go_wp2_with fail
    refine (H3.out _).mono ?_
    rintro e w6 ⟨rfl, B6, hb6⟩
    have hB6 := bt z5 hb6
    have z6 := z5.size
    clear z5 hb6
    go_wp2_with fail
    refine (H4.out _ _ B6).mono ?_
    rintro e w7 ⟨rfl, O7⟩
    have hB7 := off_below hB6 O7 z6
    go_wp2_with fail
    go_ret2
    exact ⟨rfl, hB7⟩
  · rw [if_neg hTD]
    have hne : (D == T) = false := beq_eq_false_iff_ne.2 (fun e => hTD e.symm)
    have hne2 : ¬ D = T := fun e => hTD e.symm
    clear hTD
    go_enter Try.func14, Try.ntmps14
    go_wp2_with fail
    refine (H1.out _).mono ?_
    rintro e w1 ⟨rfl, rfl⟩
    go_wp2_with fail
    go_region_held3 (fun _ => True) (trivial) (first | (go_at_call 25; refine (H5.out _).mono ?_; rintro e w5 ⟨rfl, hb5⟩))
    have z5 := kdrew hb5
    clear H5 H1
    go_wp2_with fail
    go_ret2
    exact ⟨rfl, z5⟩

set_option maxRecDepth 100000 in
set_option maxHeartbeats 2000000 in
theorem open_no (key nonce head s : List UInt8) (w : World) (hs : (s.length : Int) ≤ 9223372036854775807) (h : ¬ (kfit key nonce = true ∧ head.length ≤ 4096 ∧ 16 ≤ s.length ∧ s.length ≤ 4112)) :
    Calls Try.prog 14 #[.string ⟨key.toArray⟩, .string ⟨nonce.toArray⟩, .string ⟨head.toArray⟩, .string ⟨s.toArray⟩] w fun e w' => e = .returned (.tuple #[.string ⟨#[]⟩, .int .i64 4]) ∧ Below w.heap.size w w' := by
  have H1 := Lib.hid (fun W => fit_any key nonce W)
  have hst := size_of s
  have hsh := size_of head
  obtain ⟨n, hn⟩ : ∃ n, s.length = n := ⟨_, rfl⟩
  obtain ⟨m, hm⟩ : ∃ m, head.length = m := ⟨_, rfl⟩
  rw [hn] at hst h hs
  rw [hm] at hsh h
  clear hn hm
  have hw : ∀ i : Int, -9223372036854775808 ≤ i → i ≤ 9223372036854775807 → True := fun _ _ _ => trivial
  clear hw
  by_cases hf : kfit key nonce = true
  · rw [hf] at H1
    by_cases h0 : m ≤ 4096
    · have h7 : (m : Int) ≤ 4096 := by omega
      by_cases h1 : 16 ≤ n
      · have h5 : ¬ n ≤ 4112 := fun h5 => h ⟨hf, h0, h1, h5⟩
        have h6 : (4112 : Int) < (n : Int) := by omega
        have h8 : (0 : Int) ≤ (n : Int) - 16 := by omega
        clear h h5 h0 hf
        go_enter Try.func14, Try.ntmps14
        go_wp2_with fail
        refine (H1.out _).mono ?_
        rintro e w1 ⟨rfl, rfl⟩
        go_wp2_with fail
        go_ret2
        exact ⟨rfl, Below.refl _ _⟩
      · have h8 : (n : Int) - 16 < 0 := by omega
        clear h h0 hf
        go_enter Try.func14, Try.ntmps14
        go_wp2_with fail
        refine (H1.out _).mono ?_
        rintro e w1 ⟨rfl, rfl⟩
        go_wp2_with fail
        go_ret2
        exact ⟨rfl, Below.refl _ _⟩
    · have h6 : (4096 : Int) < (m : Int) := by omega
      clear h h0 hf
      go_enter Try.func14, Try.ntmps14
      go_wp2_with fail
      refine (H1.out _).mono ?_
      rintro e w1 ⟨rfl, rfl⟩
      go_wp2_with fail
      go_ret2
      exact ⟨rfl, Below.refl _ _⟩
  · have hf' : kfit key nonce = false := by simpa using hf
    rw [hf'] at H1
    clear h hf hf'
    go_enter Try.func14, Try.ntmps14
    go_wp2_with fail
    refine (H1.out _).mono ?_
    rintro e w1 ⟨rfl, rfl⟩
    go_wp2_with fail
    go_ret2
    exact ⟨rfl, Below.refl _ _⟩
end Go.Proofs.Ytnifgfnocdffcaa
/- The contract of the reference's Open. -/
namespace Go.Proofs.Ytnifgfnocdffcaa
open Go.RowKit

/-- What the reference's Open tells. -/
def ropenR (o : Option (List UInt8)) : Value := .agg #[.string ⟨(o.getD []).toArray⟩, .bool o.isSome]
set_option maxRecDepth 100000 in
set_option maxHeartbeats 4000000 in
theorem ropen_any (key nonce head s : List UInt8) (w : World) (hk : key.length = 16 ∨ key.length = 32) (hn12 : nonce.length = 12) (hh : head.length ≤ 80) (h16 : 16 ≤ s.length) (hs : s.length ≤ 96) :
    Calls Try.prog 15 #[.string ⟨key.toArray⟩, .string ⟨nonce.toArray⟩, .string ⟨head.toArray⟩, .string ⟨s.toArray⟩] w fun e w' => e = .returned (ropenR (openL (encL key) nonce head s)) ∧ Below w.heap.size w w' := by
  obtain ⟨n, hn⟩ : ∃ n, s.length = n + 16 := ⟨s.length - 16, by omega⟩
  have hn2 : s.length - 16 = n := by omega
  have htl : (s.take n).length = n := by rw [List.length_take]; omega
  have H4 := Lib.hid (fun W => rstream_any key nonce 2 n W hk hn12 (by omega) (by omega))
  have H6 := Lib.hid (fun W => grXor_any (s.take n) (strL (encL key) nonce 2 n) n W htl (strL_len (encL_blk key nonce hn12) _) (by omega))
  rw [gxorA_is htl] at H6
  have HE : Hid (xorL (s.take n) (strL (encL key) nonce 2 n) = ctL (encL key) nonce (s.take n)) := Lib.hid (by unfold ctL; rw [htl])
  rw [HE.out] at H6
  have H5 := Lib.hid (fun W => rtag_any8 key nonce head (s.take n) W hk hn12 hh (by omega))
  have hx1 := kextract s 0 n
  rw [List.drop_zero] at hx1
  have hx2 := kextract s n (n + 16)
  rw [List.take_of_length_le (by omega)] at hx2
  have hss := size_of s
  rw [hn] at hss
  obtain ⟨q, hq⟩ : ∃ q, n + 16 = q := ⟨_, rfl⟩
  rw [hq] at hss hx2
  have e1 : (q : Int) - 16 = (n : Int) := by omega
  have e2 : (q : Int) ≤ 4112 := by omega
  have e3 : (0 : Int) ≤ (n : Int) := by omega
  have e4 : n ≤ q := by omega
  have e5 : (n : Int) ≤ (q : Int) := by omega
  unfold openL
  rw [hn2]
  generalize ctL (encL key) nonce (s.take n) = C at H6 ⊢
  generalize strL (encL key) nonce 2 n = S at H4 H6
  generalize tagL (encL key) nonce head (s.take n) = T at H5 ⊢
  generalize s.drop n = D at hx2 ⊢
  generalize s.take n = P at H5 H6 hx1
  clear HE hk hn12 hh h16 hs hn hn2 htl hq
  by_cases hTD : T = D
  · subst hTD
    rw [if_pos rfl]
    have B0 := Lib.hid (Blk.new w 35 #[.string ⟨#[]⟩, .bool false])
    have hb0 := ba (Below.refl w.heap.size w) (.cells #[.string ⟨#[]⟩, .bool false] 35)
    go_enter Try.func15, Try.ntmps15
    go_wp2_with fail
    go_region_held3 (fun _ => True) (trivial) (first | (go_at_call 27; refine (H5.out _).mono ?_; rintro e w5 ⟨rfl, hb5⟩))
    have hB5 : Below w.heap.size w w5 := hb0.trans ((kdrew hb5).mono hb0.size)
    have B5 := Lib.hid (B0.out.below (kdrew hb5))
    clear hb5 B0 hb0 H5
    go_wp2_with fail
    go_region_held3 (fun _ => True) (trivial) (first
      | (go_at_call 11; refine (H4.out _).mono ?_; rintro e w6 ⟨rfl, hb6⟩)
      | (go_at_call 26; refine (H6.out _).mono ?_; rintro e w7 ⟨rfl, hb7⟩; have B7 := Lib.hid ((B5.out.below (kdrew hb6)).below hb7); have c0 := B7.out.cell 0; have c1 := B7.out.cell 1; have f0 := B7.out.frozen 0; have f1 := B7.out.frozen 1))
    have B8 := Lib.hid ((B7.out.set_ 0 (.string ⟨C.toArray⟩)).set_ 1 (.bool true))
    have hb8 := bs (bs (bt (bt hB5 (kdrew hb6)) hb7) (b := w.heap.size) (o := 0) (Nat.le_refl _) (.string ⟨C.toArray⟩)) (b := w.heap.size) (o := 1) (Nat.le_refl _) (.bool true)
    generalize (w7.setCell ⟨w.heap.size, 0, none⟩ (.string ⟨C.toArray⟩)).setCell ⟨w.heap.size, 1, none⟩ (.bool true) = w8 at B8 hb8 ⊢
    clear c0 c1 f0 f1 B7 hb6 hb7 H4 H6 B5 hB5
    go_wp2_with fail
    refine bodyPost_ret (v := .agg #[.string ⟨C.toArray⟩, .bool true]) (results_cell_row rfl _ _ _ _ _ _ _ rfl B8.out Try.underlying35 rfl (by kernel_rfl)) rfl ?_
    exact ⟨rfl, hb8⟩
  · rw [if_neg hTD]
    have hne : (T == D) = false := beq_eq_false_iff_ne.2 (fun e => hTD e)
    have hne2 : ¬ T = D := hTD
    clear hTD H4 H6
    have B0 := Lib.hid (Blk.new w 35 #[.string ⟨#[]⟩, .bool false])
    have hb0 := ba (Below.refl w.heap.size w) (.cells #[.string ⟨#[]⟩, .bool false] 35)
    go_enter Try.func15, Try.ntmps15
    go_wp2_with fail
    go_region_held3 (fun _ => True) (trivial) (first | (go_at_call 27; refine (H5.out _).mono ?_; rintro e w5 ⟨rfl, hb5⟩))
    have hB5 : Below w.heap.size w w5 := hb0.trans ((kdrew hb5).mono hb0.size)
    have B5 := B0.out.below (kdrew hb5)
    have c0 := B5.cell 0
    have c1 := B5.cell 1
    have f0 := B5.frozen 0
    have f1 := B5.frozen 1
    have B8 := Lib.hid ((B5.set_ 0 (.string ⟨#[]⟩)).set_ 1 (.bool false))
    have hb8 := Lib.hid (bs (bs hB5 (b := w.heap.size) (o := 0) (Nat.le_refl _) (.string ⟨#[]⟩)) (b := w.heap.size) (o := 1) (Nat.le_refl _) (.bool false))
    clear hb5 B0 hb0 H5 B5 hB5
    go_wp2_with fail
    refine bodyPost_ret (v := .agg #[.string ⟨#[]⟩, .bool false]) (results_cell_row rfl _ _ _ _ _ _ _ rfl B8.out Try.underlying35 rfl (by kernel_rfl)) rfl ?_
    exact ⟨rfl, hb8.out⟩
end Go.Proofs.Ytnifgfnocdffcaa
/- Five and six parameters, parted. Nothing of any function. -/
namespace Go.Proofs.Ytnifgfnocdffcaa
open Go.ChangeShapes
section
variable {H : Type} {enc : TypeId × Value → H} {P : Program} {w : World} {base : Nat} {spare : Nat → Bool} {held : Bool}
theorem trodAll_five {t0 t1 t2 t3 t4 : TypeId} {args : Array Value} {ds : List (DataW H)} {ps : List MemPlace} (h : DataW.TrodAll enc P w base spare held [t0, t1, t2, t3, t4] args.toList ds ps) :
    ∃ v0 v1 v2 v3 v4 d0 d1 d2 d3 d4 p0 p1 p2 p3 p4, args = #[v0, v1, v2, v3, v4] ∧ ds = [d0, d1, d2, d3, d4] ∧ ps = p0 ++ p1 ++ p2 ++ p3 ++ p4 ∧ DataW.Trod enc P w base spare held t0 v0 d0 p0 ∧ DataW.Trod enc P w base spare held t1 v1 d1 p1 ∧ DataW.Trod enc P w base spare held t2 v2 d2 p2 ∧ DataW.Trod enc P w base spare held t3 v3 d3 p3 ∧ DataW.Trod enc P w base spare held t4 v4 d4 p4 := by
  obtain ⟨v0, vs0, d0, ds0, p0, q0, hargs, rfl, rfl, hd0, hr0⟩ := trodAll_cons h
  obtain ⟨v1, vs1, d1, ds1, p1, q1, rfl, rfl, rfl, hd1, hr1⟩ := trodAll_cons hr0
  obtain ⟨v2, vs2, d2, ds2, p2, q2, rfl, rfl, rfl, hd2, hr2⟩ := trodAll_cons hr1
  obtain ⟨v3, vs3, d3, ds3, p3, q3, rfl, rfl, rfl, hd3, hr3⟩ := trodAll_cons hr2
  obtain ⟨v4, vs4, d4, ds4, p4, q4, rfl, rfl, rfl, hd4, hr4⟩ := trodAll_cons hr3
  obtain ⟨rfl, rfl, rfl⟩ := trodAll_nil hr4
  exact ⟨v0, v1, v2, v3, v4, d0, d1, d2, d3, d4, p0, p1, p2, p3, p4, by cases args; simp_all, rfl, by simp, hd0, hd1, hd2, hd3, hd4⟩
theorem trodAll_six {t0 t1 t2 t3 t4 t5 : TypeId} {args : Array Value} {ds : List (DataW H)} {ps : List MemPlace} (h : DataW.TrodAll enc P w base spare held [t0, t1, t2, t3, t4, t5] args.toList ds ps) :
    ∃ v0 v1 v2 v3 v4 v5 d0 d1 d2 d3 d4 d5 p0 p1 p2 p3 p4 p5, args = #[v0, v1, v2, v3, v4, v5] ∧ ds = [d0, d1, d2, d3, d4, d5] ∧ ps = p0 ++ p1 ++ p2 ++ p3 ++ p4 ++ p5 ∧ DataW.Trod enc P w base spare held t0 v0 d0 p0 ∧ DataW.Trod enc P w base spare held t1 v1 d1 p1 ∧ DataW.Trod enc P w base spare held t2 v2 d2 p2 ∧ DataW.Trod enc P w base spare held t3 v3 d3 p3 ∧ DataW.Trod enc P w base spare held t4 v4 d4 p4 ∧ DataW.Trod enc P w base spare held t5 v5 d5 p5 := by
  obtain ⟨v0, vs0, d0, ds0, p0, q0, hargs, rfl, rfl, hd0, hr0⟩ := trodAll_cons h
  obtain ⟨v1, vs1, d1, ds1, p1, q1, rfl, rfl, rfl, hd1, hr1⟩ := trodAll_cons hr0
  obtain ⟨v2, vs2, d2, ds2, p2, q2, rfl, rfl, rfl, hd2, hr2⟩ := trodAll_cons hr1
  obtain ⟨v3, vs3, d3, ds3, p3, q3, rfl, rfl, rfl, hd3, hr3⟩ := trodAll_cons hr2
  obtain ⟨v4, vs4, d4, ds4, p4, q4, rfl, rfl, rfl, hd4, hr4⟩ := trodAll_cons hr3
  obtain ⟨v5, vs5, d5, ds5, p5, q5, rfl, rfl, rfl, hd5, hr5⟩ := trodAll_cons hr4
  obtain ⟨rfl, rfl, rfl⟩ := trodAll_nil hr5
  exact ⟨v0, v1, v2, v3, v4, v5, d0, d1, d2, d3, d4, d5, p0, p1, p2, p3, p4, p5, by cases args; simp_all, rfl, by simp, hd0, hd1, hd2, hd3, hd4, hd5⟩
end
end Go.Proofs.Ytnifgfnocdffcaa
