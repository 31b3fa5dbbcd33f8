/- Texts of this seat, one behind the other: KRef, KROpen. -/
import Derived.Test.YtcecjoodlmpgnaaGreatQ20
import Derived.Test.YtcecjoodlmpgnaaGreatQ22
/- The contracts of the reference's May, Stream, Tag and Seal. -/
namespace Go.Proofs.YtcecjoodlmpgnaaGreat
open Go.RowKit

theorem strB_more {E : List UInt8 → List UInt8} {nonce : List UInt8} {c k : Nat} : strB E nonce c (k + 1) = strB E nonce c k ++ E (nonce ++ be4 ((c + k) % 4294967296)) := by rw [be4_mod]; rfl
theorem kextract0 (l : List UInt8) (m : Nat) : (⟨l.toArray⟩ : ByteArray).extract 0 m = ⟨(l.take m).toArray⟩ := extract_take l m
set_option maxRecDepth 100000 in
set_option maxHeartbeats 4000000 in
theorem rstream_any (key nonce : List UInt8) (c n : Nat) (w : World) (hk : key.length = 16 ∨ key.length = 32) (hn12 : nonce.length = 12) (hc : c < 4294967296) (hn : n ≤ 96) :
    Calls Tryz.prog 39 #[.string ⟨key.toArray⟩, .string ⟨nonce.toArray⟩, .int .u32 (c : Int), .int .i64 (n : Int)] w fun e w' => e = .returned (.string ⟨(strL (encL key) nonce c n).toArray⟩) ∧ Below w.heap.size w w' := by
  have hE := encL_blk key nonce hn12
  have HSL := Lib.hid (fun k => strB_len (c := c) hE k)
  have HC := Lib.hid (fun x W (hx : x < 4294967296) => kcounter_any x W hx)
  have HE1 := Lib.hid (fun x W => rEnc_any key (nonce ++ be4 x) W hk (by rw [List.length_append, hn12, be4_len]))
  have HA1 := Lib.hid (fun x (W : World) => run_string_add_lists (P := Tryz.prog) W nonce (be4 x) (by omega) (by rw [be4_len]; omega))
  have HA2 := Lib.hid (fun k x (W : World) (hk : k ≤ 6) => run_string_add_lists (P := Tryz.prog) W (strB (encL key) nonce c k) (encL key (nonce ++ be4 x)) (by rw [HSL.out]; omega) (by rw [hE]; omega))
  have HMORE := Lib.hid (fun k => strB_more (E := encL key) (nonce := nonce) (c := c) (k := k))
  have HEND : Hid (∀ k, 16 * k < n + 16 → n ≤ 16 * k → (strB (encL key) nonce c k).take n = strL (encL key) nonce c n) := Lib.hid (fun k h1 h2 => by
    unfold strL
    rw [show (n + 15) / 16 = k by omega])
  generalize strL (encL key) nonce c n = R at HEND ⊢
  have HC0 : Hid (c < 4294967296) := Lib.hid hc
  clear hk hn12 hE
  go_enter Tryz.func39, Tryz.ntmps39
  go_wp2_with fail
  go_loopw [2, 9] (fun cv ov wr => ∃ k : Nat, 16 * k < n + 16 ∧ cv = .int .u32 (((c + k) % 4294967296 : Nat) : Int) ∧ ov = .string ⟨(strB (encL key) nonce c k).toArray⟩ ∧ Below w.heap.size w wr) (fun _ ov _ => n - (match ov with | .string s => s.size | _ => 0))
  case atStart => exact ⟨0, by omega, by rw [Nat.add_zero, Nat.mod_eq_of_lt HC0.out], rfl, Below.refl _ _⟩
  case round =>
    obtain ⟨k, hk, rfl, rfl, hb⟩ := hrel
    have hsz := size_of (strB (encL key) nonce c k)
    rw [HSL.out] at hsz
    have HM := Lib.hid (HMORE.out k)
    have hkk : k ≤ 6 := by omega
    have HA2k := Lib.hid (fun x W => HA2.out k x W hkk)
    have hsz2 := size_of (strB (encL key) nonce c (k + 1))
    rw [HSL.out] at hsz2
    have hnx : (c + (k + 1)) % 4294967296 = ((c + k) % 4294967296 + 1) % 4294967296 := by omega
    by_cases hlt : 16 * k < n
    · obtain ⟨x, hx⟩ : ∃ x, (c + k) % 4294967296 = x := ⟨_, rfl⟩
      have hx32 : x < 4294967296 := by omega
      rw [hx] at HM hnx ⊢
      have HCX := Lib.hid (fun W => HC.out x W hx32)
      have HEX := Lib.hid (fun W => HE1.out x W)
      have ha1 := fun W => HA1.out x W
      have ha2 := fun W => HA2k.out x W
      rw [← HM.out] at ha2
      obtain ⟨y, hy⟩ : ∃ y, (x + 1) % 4294967296 = y := ⟨_, rfl⟩
      have hyy : ((x : Int) + 1) % 4294967296 = (y : Int) := by omega
      have HY : Hid (y = (c + (k + 1)) % 4294967296) := Lib.hid (by rw [hnx, hy])
      generalize encL key (nonce ++ be4 x) = EX at HEX ha2
      generalize nonce ++ be4 x = NX at HEX ha1
      generalize be4 x = BX at HCX ha1
      obtain ⟨S1, hS1⟩ : ∃ S1, strB (encL key) nonce c (k + 1) = S1 := ⟨_, rfl⟩
      have HS1 := Lib.hid hS1
      rw [hS1] at ha2 hsz2
      generalize strB (encL key) nonce c k = S0 at ha2 hsz ⊢
      obtain ⟨q, hq⟩ : ∃ q, 16 * k = q := ⟨_, rfl⟩
      have HQ := Lib.hid hq
      rw [hq] at hsz
      have hlt2 : (q : Int) < (n : Int) := by omega
      have HSZ2 := Lib.hid hsz2
      have HSZ := Lib.hid hsz
      clear HC HE1 HA1 HA2 HA2k HMORE HEND HSL HM hx hnx hx32 hy hS1 hq hsz2 hlt
      go_wp2_with fail
      refine (HCX.out _).mono ?_
      rintro e w1 ⟨rfl, hb1⟩
      go_wp2_with fail
      refine (HEX.out _).mono ?_
      rintro e w2 ⟨rfl, hb2⟩
      have hB2 := bt (bt hb hb1) hb2
      go_wp2_with fail
      exact ⟨⟨k + 1, by have := HQ.out; omega, by rw [← HY.out, ← hyy], by rw [HS1.out], hB2⟩, by have := HQ.out; have h1 := HSZ.out; have h2 := HSZ2.out; simp only [h1, h2]; omega⟩
    · have hlt2 : ¬ (((16 * k : Nat) : Int) < (n : Int)) := by omega
      have hend := HEND.out k hk (by omega)
      have hx := kextract0 (strB (encL key) nonce c k) n
      rw [hend] at hx
      generalize strB (encL key) nonce c k = S0 at hx hsz ⊢
      obtain ⟨q, hq⟩ : ∃ q, 16 * k = q := ⟨_, rfl⟩
      rw [hq] at hsz hlt2
      have hnq : n ≤ q := by omega
      have hnq2 : (n : Int) ≤ (q : Int) := by omega
      clear HC HE1 HA1 HA2 HA2k HMORE HEND HSL HM hnx hq hsz2 hlt hend
      go_wp2_with fail
      go_ret
      exact ⟨rfl, hb⟩

theorem zeros_conv (W : World) : (convert 64 9 (.slice (some ⟨W.heap.size, 0, none⟩) 16 16)).run Tryz.prog (W.alloc (.cells #[.int .u8 0, .int .u8 0, .int .u8 0, .int .u8 0, .int .u8 0, .int .u8 0, .int .u8 0, .int .u8 0, .int .u8 0, .int .u8 0, .int .u8 0, .int .u8 0, .int .u8 0, .int .u8 0, .int .u8 0, .int .u8 0] 5)) = .ok (.string ⟨gzeros.toArray⟩) (W.alloc (.cells #[.int .u8 0, .int .u8 0, .int .u8 0, .int .u8 0, .int .u8 0, .int .u8 0, .int .u8 0, .int .u8 0, .int .u8 0, .int .u8 0, .int .u8 0, .int .u8 0, .int .u8 0, .int .u8 0, .int .u8 0, .int .u8 0] 5)) := by
  refine run_convert_bytes_back (P := Tryz.prog) (W.alloc (.cells #[.int .u8 0, .int .u8 0, .int .u8 0, .int .u8 0, .int .u8 0, .int .u8 0, .int .u8 0, .int .u8 0, .int .u8 0, .int .u8 0, .int .u8 0, .int .u8 0, .int .u8 0, .int .u8 0, .int .u8 0, .int .u8 0] 5)) 64 9 5 ⟨W.heap.size, 0, none⟩ 16 gzeros Tryz.underlying64 Tryz.underlying5 Tryz.underlying9 (fun j hj => ?_)
  rw [Addr.add_mid, Nat.zero_add]
  have h := (Blk.new W 5 #[.int .u8 0, .int .u8 0, .int .u8 0, .int .u8 0, .int .u8 0, .int .u8 0, .int .u8 0, .int .u8 0, .int .u8 0, .int .u8 0, .int .u8 0, .int .u8 0, .int .u8 0, .int .u8 0, .int .u8 0, .int .u8 0]).cell j
  rw [h]
  exact (row_at (L := gzeros) hj).trans (by rw [ub_at hj])
set_option maxRecDepth 100000 in
set_option maxHeartbeats 2000000 in
theorem rtag_any8 (key nonce head t : List UInt8) (w : World) (hk : key.length = 16 ∨ key.length = 32) (hn : nonce.length = 12) (hh : head.length ≤ 80) (ht : t.length ≤ 80) :
    Calls Tryz.prog 40 #[.string ⟨key.toArray⟩, .string ⟨nonce.toArray⟩, .string ⟨head.toArray⟩, .string ⟨t.toArray⟩] w fun e w' => e = .returned (.string ⟨(tagL (encL key) nonce head t).toArray⟩) ∧ Below w.heap.size w w' := by
  have H2 := Lib.hid (fun W => rEnc_any key gzeros W hk gzeros_blk)
  have H3 := Lib.hid (fun W => rsum_any (encL key gzeros) head t W (encL_len _ _ gzeros_blk) hh ht)
  have H4 := Lib.hid (fun W => rstream_any key nonce 1 16 W hk hn (by omega) (by omega))
  have H5 := Lib.hid (fun W => grXor_any (sumL (encL key gzeros) head t) (strL (encL key) nonce 1 16) 16 W (sumL_len _ _ _) (strL_len (encL_blk key nonce hn) _) (by omega))
  rw [gxorA_is (sumL_len _ _ _)] at H5
  have HE : Hid (xorL (sumL (encL key gzeros) head t) (strL (encL key) nonce 1 16) = tagL (encL key) nonce head t) := Lib.hid rfl
  rw [HE.out] at H5
  have hcv := fun W => zeros_conv W
  generalize tagL (encL key) nonce head t = R at H5 ⊢
  generalize strL (encL key) nonce 1 16 = T at H4 H5
  generalize sumL (encL key gzeros) head t = S at H3 H5
  generalize encL key gzeros = Z at H2 H3
  generalize gzeros = G at hcv H2
  clear HE hk hn hh ht
  go_enter Tryz.func40, Tryz.ntmps40
  go_wp2_with fail
  refine (H2.out _).mono ?_
  rintro e w2 ⟨rfl, hb2⟩
  have hB2 := bt (ba (Below.refl _ _) _) hb2
  clear hb2
  go_wp2_with fail
  refine (H3.out _).mono ?_
  rintro e w3 ⟨rfl, hb3⟩
  go_wp2_with fail
  refine (H4.out _).mono ?_
  rintro e w4 ⟨rfl, hb4⟩
  go_wp2_with fail
  refine (H5.out _).mono ?_
  rintro e w5 ⟨rfl, hb5⟩
  go_wp2_with fail
  go_ret
  exact ⟨rfl, bt (bt (bt hB2 hb3) hb4) hb5⟩
set_option maxRecDepth 100000 in
set_option maxHeartbeats 2000000 in
theorem rseal_any (key nonce head t : List UInt8) (w : World) (hk : key.length = 16 ∨ key.length = 32) (hn : nonce.length = 12) (hh : head.length ≤ 80) (ht : t.length ≤ 80) :
    Calls Tryz.prog 24 #[.string ⟨key.toArray⟩, .string ⟨nonce.toArray⟩, .string ⟨head.toArray⟩, .string ⟨t.toArray⟩] w fun e w' => e = .returned (.string ⟨(sealL (encL key) nonce head t).toArray⟩) ∧ Below w.heap.size w w' := by
  have H4 := Lib.hid (fun W => rstream_any key nonce 2 t.length W hk hn (by omega) (by omega))
  have H5 := Lib.hid (fun W => grXor_any t (strL (encL key) nonce 2 t.length) t.length W rfl (strL_len (encL_blk key nonce hn) _) (by omega))
  rw [gxorA_is rfl] at H5
  have HE : Hid (xorL t (strL (encL key) nonce 2 t.length) = ctL (encL key) nonce t) := Lib.hid rfl
  rw [HE.out] at H5
  have H6 := Lib.hid (fun W => rtag_any8 key nonce head (ctL (encL key) nonce t) W hk hn hh (by rw [ctL_len]; exact ht))
  have had := fun (W : World) => run_string_add_lists (P := Tryz.prog) W (ctL (encL key) nonce t) (tagL (encL key) nonce head (ctL (encL key) nonce t)) (by rw [ctL_len]; omega) (by rw [tagL_len]; omega)
  rw [show ctL (encL key) nonce t ++ tagL (encL key) nonce head (ctL (encL key) nonce t) = sealL (encL key) nonce head t from rfl] at had
  have hst := size_of t
  generalize sealL (encL key) nonce head t = R at had ⊢
  generalize tagL (encL key) nonce head (ctL (encL key) nonce t) = T at H6 had
  generalize ctL (encL key) nonce t = C at H5 H6 had
  obtain ⟨n, hnn⟩ : ∃ n, t.length = n := ⟨_, rfl⟩
  rw [hnn] at hst H4 H5
  generalize strL (encL key) nonce 2 n = S at H4 H5
  clear HE hk hn hh ht hnn
  go_enter Tryz.func24, Tryz.ntmps24
  go_wp2_with fail
  refine (H4.out _).mono ?_
  rintro e w2 ⟨rfl, hb2⟩
  go_wp2_with fail
  refine (H5.out _).mono ?_
  rintro e w3 ⟨rfl, hb3⟩
  go_wp2_with fail
  refine (H6.out _).mono ?_
  rintro e w4 ⟨rfl, hb4⟩
  go_wp2_with fail
  go_ret
  exact ⟨rfl, bt (bt hb2 hb3) hb4⟩
end Go.Proofs.YtcecjoodlmpgnaaGreat
/- The contract of the reference's Open. -/
namespace Go.Proofs.YtcecjoodlmpgnaaGreat
open Go.RowKit

/-- What the reference's Open tells. -/
def ropenR (o : Option (List UInt8)) : Value := .agg #[.string ⟨(o.getD []).toArray⟩, .bool o.isSome]
set_option maxRecDepth 100000 in
set_option maxHeartbeats 4000000 in
theorem ropen_any (key nonce head s : List UInt8) (w : World) (hk : key.length = 16 ∨ key.length = 32) (hn12 : nonce.length = 12) (hh : head.length ≤ 80) (h16 : 16 ≤ s.length) (hs : s.length ≤ 96) :
    Calls Tryz.prog 29 #[.string ⟨key.toArray⟩, .string ⟨nonce.toArray⟩, .string ⟨head.toArray⟩, .string ⟨s.toArray⟩] w fun e w' => e = .returned (ropenR (openL (encL key) nonce head s)) ∧ Below w.heap.size w w' := by
  obtain ⟨n, hn⟩ : ∃ n, s.length = n + 16 := ⟨s.length - 16, by omega⟩
  have hn2 : s.length - 16 = n := by omega
  have htl : (s.take n).length = n := by rw [List.length_take]; omega
  have H4 := Lib.hid (fun W => rstream_any key nonce 2 n W hk hn12 (by omega) (by omega))
  have H6 := Lib.hid (fun W => grXor_any (s.take n) (strL (encL key) nonce 2 n) n W htl (strL_len (encL_blk key nonce hn12) _) (by omega))
  rw [gxorA_is htl] at H6
  have HE : Hid (xorL (s.take n) (strL (encL key) nonce 2 n) = ctL (encL key) nonce (s.take n)) := Lib.hid (by unfold ctL; rw [htl])
  rw [HE.out] at H6
  have H5 := Lib.hid (fun W => rtag_any8 key nonce head (s.take n) W hk hn12 hh (by omega))
  have hx1 := kextract s 0 n
  rw [List.drop_zero] at hx1
  have hx2 := kextract s n (n + 16)
  rw [List.take_of_length_le (by omega)] at hx2
  have hss := size_of s
  rw [hn] at hss
  obtain ⟨q, hq⟩ : ∃ q, n + 16 = q := ⟨_, rfl⟩
  rw [hq] at hss hx2
  have e1 : (q : Int) - 16 = (n : Int) := by omega
  have e2 : (q : Int) ≤ 4112 := by omega
  have e3 : (0 : Int) ≤ (n : Int) := by omega
  have e4 : n ≤ q := by omega
  have e5 : (n : Int) ≤ (q : Int) := by omega
  unfold openL
  rw [hn2]
  generalize ctL (encL key) nonce (s.take n) = C at H6 ⊢
  generalize strL (encL key) nonce 2 n = S at H4 H6
  generalize tagL (encL key) nonce head (s.take n) = T at H5 ⊢
  generalize s.drop n = D at hx2 ⊢
  generalize s.take n = P at H5 H6 hx1
  clear HE hk hn12 hh h16 hs hn hn2 htl hq
  by_cases hTD : T = D
  · subst hTD
    rw [if_pos rfl]
    have B0 := Lib.hid (Blk.new w 51 #[.string ⟨#[]⟩, .bool false])
    have hb0 := ba (Below.refl w.heap.size w) (.cells #[.string ⟨#[]⟩, .bool false] 51)
    go_enter Tryz.func29, Tryz.ntmps29
    go_wp2_with fail
    go_region_held3 (fun _ => True) (trivial) (first | (go_at_call 40; refine (H5.out _).mono ?_; rintro e w5 ⟨rfl, hb5⟩))
    have hB5 : Below w.heap.size w w5 := hb0.trans ((kdrew hb5).mono hb0.size)
    have B5 := Lib.hid (B0.out.below (kdrew hb5))
    clear hb5 B0 hb0 H5
    go_wp2_with fail
    go_region_held3 (fun _ => True) (trivial) (first
      | (go_at_call 39; refine (H4.out _).mono ?_; rintro e w6 ⟨rfl, hb6⟩)
      | (go_at_call 38; refine (H6.out _).mono ?_; rintro e w7 ⟨rfl, hb7⟩; have B7 := Lib.hid ((B5.out.below (kdrew hb6)).below hb7); have c0 := B7.out.cell 0; have c1 := B7.out.cell 1; have f0 := B7.out.frozen 0; have f1 := B7.out.frozen 1))
    have B8 := Lib.hid ((B7.out.set_ 0 (.string ⟨C.toArray⟩)).set_ 1 (.bool true))
    have hb8 := bs (bs (bt (bt hB5 (kdrew hb6)) hb7) (b := w.heap.size) (o := 0) (Nat.le_refl _) (.string ⟨C.toArray⟩)) (b := w.heap.size) (o := 1) (Nat.le_refl _) (.bool true)
    generalize (w7.setCell ⟨w.heap.size, 0, none⟩ (.string ⟨C.toArray⟩)).setCell ⟨w.heap.size, 1, none⟩ (.bool true) = w8 at B8 hb8 ⊢
    clear c0 c1 f0 f1 B7 hb6 hb7 H4 H6 B5 hB5
    go_wp2_with fail
    refine bodyPost_ret (v := .agg #[.string ⟨C.toArray⟩, .bool true]) (results_cell_row rfl _ _ _ _ _ _ _ rfl B8.out Tryz.underlying51 rfl (by kernel_rfl)) rfl ?_
    exact ⟨rfl, hb8⟩
  · rw [if_neg hTD]
    have hne : (T == D) = false := beq_eq_false_iff_ne.2 (fun e => hTD e)
    have hne2 : ¬ T = D := hTD
    clear hTD H4 H6
    have B0 := Lib.hid (Blk.new w 51 #[.string ⟨#[]⟩, .bool false])
    have hb0 := ba (Below.refl w.heap.size w) (.cells #[.string ⟨#[]⟩, .bool false] 51)
    go_enter Tryz.func29, Tryz.ntmps29
    go_wp2_with fail
    go_region_held3 (fun _ => True) (trivial) (first | (go_at_call 40; refine (H5.out _).mono ?_; rintro e w5 ⟨rfl, hb5⟩))
    have hB5 : Below w.heap.size w w5 := hb0.trans ((kdrew hb5).mono hb0.size)
    have B5 := B0.out.below (kdrew hb5)
    have c0 := B5.cell 0
    have c1 := B5.cell 1
    have f0 := B5.frozen 0
    have f1 := B5.frozen 1
    have B8 := Lib.hid ((B5.set_ 0 (.string ⟨#[]⟩)).set_ 1 (.bool false))
    have hb8 := Lib.hid (bs (bs hB5 (b := w.heap.size) (o := 0) (Nat.le_refl _) (.string ⟨#[]⟩)) (b := w.heap.size) (o := 1) (Nat.le_refl _) (.bool false))
    clear hb5 B0 hb0 H5 B5 hB5
    go_wp2_with fail
    refine bodyPost_ret (v := .agg #[.string ⟨#[]⟩, .bool false]) (results_cell_row rfl _ _ _ _ _ _ _ rfl B8.out Tryz.underlying51 rfl (by kernel_rfl)) rfl ?_
    exact ⟨rfl, hb8.out⟩
end Go.Proofs.YtcecjoodlmpgnaaGreat
