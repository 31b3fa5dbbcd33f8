/- Texts of this seat, one behind the other: WSeal, WOpen, WLaw, WBackW, WAny, Trod, U64. -/
import Derived.Carry
import Derived.Test.YtcecjoodlmpgnaaQ01
import Derived.Test.YtcecjoodlmpgnaaQ15
/- The contracts of Nonce and Seal. -/
namespace Go.Proofs.Ytcecjoodlmpgnaa
open Go.RowKit

set_option maxRecDepth 100000 in
set_option maxHeartbeats 1000000 in
theorem wnonce_no (a : Int) (g : Nat) (w : World) (ha : atB a = false) :
    Calls Try.prog 5 #[.int .i64 a, .int .u64 (g : Int)] w fun e w' => e = .returned (.tuple #[.string ⟨#[]⟩, .int .i64 1]) ∧ Below w.heap.size w w' := by
  have HS := Lib.hid (fun W => isSector_any a W)
  rw [ha] at HS
  clear ha
  have HB := Lib.hid (Blk.new w 35 #[.bool false, .int .i64 1])
  go_enter Try.func5, Try.ntmps5
  go_wp2_with fail
  refine (HS.out _).mono ?_
  rintro e w1 ⟨rfl, rfl⟩
  go_wp2_with fail
  refine (refusal_one false 1 _ _ HB.out).mono ?_
  rintro e w2 ⟨rfl, hb2⟩
  have hb2 := bt (ba (Below.refl _ _) _) hb2
  rw [show refuse [(false, 1)] = 1 from rfl]
  go_wp2_with fail
  go_ret2
  exact ⟨rfl, hb2⟩

set_option maxRecDepth 100000 in
set_option maxHeartbeats 1000000 in
theorem wnonce_yes (a g : Nat) (w : World) (ha : a ≤ 63) (hg : (g : Int) ≤ 18446744073709551615) :
    Calls Try.prog 5 #[.int .i64 (a : Int), .int .u64 (g : Int)] w fun e w' => e = .returned (.tuple #[.string ⟨(wnonce a g).toArray⟩, .int .i64 0]) ∧ Below w.heap.size w w' := by
  have HS := Lib.hid (fun W => isSector_any a W)
  rw [show atB (a : Int) = true by simp [atB]; omega] at HS
  have HN := Lib.hid (fun W => nonceOf_any a g W ha hg)
  generalize wnonce a g = R at HN ⊢
  clear ha hg
  have HB := Lib.hid (Blk.new w 35 #[.bool true, .int .i64 1])
  go_enter Try.func5, Try.ntmps5
  go_wp2_with fail
  refine (HS.out _).mono ?_
  rintro e w1 ⟨rfl, rfl⟩
  go_wp2_with fail
  refine (refusal_one true 1 _ _ HB.out).mono ?_
  rintro e w2 ⟨rfl, hb2⟩
  have hb2 := bt (ba (Below.refl _ _) _) hb2
  rw [show refuse [(true, 1)] = 0 from rfl]
  go_wp2_with fail
  refine (HN.out _).mono ?_
  rintro e w3 ⟨rfl, hb3⟩
  go_wp2_with fail
  go_ret2
  exact ⟨rfl, bt hb2 hb3⟩

set_option maxRecDepth 100000 in
set_option maxHeartbeats 1000000 in
theorem wseal_no (k d : List UInt8) (kind a : Int) (g l : Nat) (w : World) (R : Int) (hk : (k.length : Int) ≤ 9223372036854775807)
    (hR : refuse [(atB a, 1), (kindB kind, 1), (keyB k, 4), (decide ((d.length : Int) ≤ 64), 4)] = R) (h0 : (R != 0) = true) :
    Calls Try.prog 6 #[.string ⟨k.toArray⟩, .int .i64 kind, .int .i64 a, .int .u64 (g : Int), .int .u64 (l : Int), .string ⟨d.toArray⟩] w fun e w' => e = .returned (.tuple #[.string ⟨#[]⟩, .int .i64 R]) ∧ Below w.heap.size w w' := by
  have HS := Lib.hid (fun W => isSector_any a W)
  have HK := Lib.hid (fun W => isKind_any kind W)
  have HY := Lib.hid (fun W => wisKey_any k W hk)
  have hz := size_of d
  obtain ⟨n, hn⟩ : ∃ n, d.length = n := ⟨_, rfl⟩
  rw [hn] at hz hR
  generalize atB a = b0 at HS hR
  generalize kindB kind = b1 at HK hR
  generalize keyB k = b2 at HY hR
  have HB : Hid (∀ b3 : Bool, b3 = decide ((n : Int) ≤ 64) → Calls Try.prog 9 #[.slice (some ⟨w.heap.size, 0, none⟩) 4 4] (w.alloc (.cells #[.bool b0, .int .i64 1, .bool b1, .int .i64 1, .bool b2, .int .i64 4, .bool b3, .int .i64 4] 35)) fun e w' => e = .returned (.int .i64 R) ∧ Below w.heap.size w w') := Lib.hid fun b3 h3 =>
    (refusal_four b0 b1 b2 b3 1 1 4 4 _ _ (Blk.new w _ _)).mono fun e w' h => ⟨by rw [← hR, ← h3]; exact h.1, bt (ba (Below.refl _ _) _) h.2⟩
  have HB := Lib.hid (HB.out _ rfl)
  clear hR hn hk
  go_enter Try.func6, Try.ntmps6
  go_wp2_with fail
  refine (HS.out _).mono ?_
  rintro e w1 ⟨rfl, rfl⟩
  go_wp2_with fail
  refine (HK.out _).mono ?_
  rintro e w2 ⟨rfl, rfl⟩
  go_wp2_with fail
  refine (HY.out _).mono ?_
  rintro e w3 ⟨rfl, rfl⟩
  go_wp2_with fail
  refine HB.out.mono ?_
  rintro e w4 ⟨rfl, hb4⟩
  go_wp2_with fail
  go_ret2
  exact ⟨rfl, hb4⟩

set_option maxRecDepth 100000 in
set_option maxHeartbeats 1000000 in
theorem wseal_yes (k d : List UInt8) (kind a g l : Nat) (w : World) (hk : k.length = 16 ∨ k.length = 32) (hd : d.length ≤ 64) (ha : a ≤ 63) (hi : kind ≤ 2) (hg : (g : Int) ≤ 18446744073709551615) (hl : (l : Int) ≤ 18446744073709551615) :
    Calls Try.prog 6 #[.string ⟨k.toArray⟩, .int .i64 (kind : Int), .int .i64 (a : Int), .int .u64 (g : Int), .int .u64 (l : Int), .string ⟨d.toArray⟩] w fun e w' => e = .returned (.tuple #[.string ⟨(wseal (encL k) kind a g l d).toArray⟩, .int .i64 0]) ∧ Below w.heap.size w w' := by
  have HS := Lib.hid (fun W => isSector_any a W)
  have HK := Lib.hid (fun W => isKind_any kind W)
  have HY := Lib.hid (fun W => wisKey_any k W (by omega))
  rw [show atB (a : Int) = true by simp [atB]; omega] at HS
  rw [show kindB (kind : Int) = true by simp [kindB]; omega] at HK
  rw [show keyB k = true by simp [keyB]; omega] at HY
  have HN := Lib.hid (fun W => nonceOf_any a g W ha hg)
  have HH := Lib.hid (fun W => headOf_any kind l d.length W hi hl hd)
  have HE := Lib.hid (fun W => seal_yes k (wnonce a g) (whead kind l d.length) d W (by simp [kfit, wnonce_len]; exact hk) (by rw [whead_len]; omega) (by omega))
  have HG := Lib.hid (fun W => number_any g W hg)
  have had := fun (W : World) => run_string_add_lists (P := Try.prog) W (low g 8) (sealL (encL k) (wnonce a g) (whead kind l d.length) d) (by rw [low_length]; omega) (by rw [sealL_len]; omega)
  rw [show low g 8 ++ sealL (encL k) (wnonce a g) (whead kind l d.length) d = wseal (encL k) kind a g l d from rfl] at had
  have hz := size_of d
  generalize wseal (encL k) kind a g l d = R at had ⊢
  generalize sealL (encL k) (wnonce a g) (whead kind l d.length) d = S at HE had
  generalize wnonce a g = N at HN HE
  obtain ⟨n, hn⟩ : ∃ n, d.length = n := ⟨_, rfl⟩
  rw [hn] at hz hd HH HE
  generalize whead kind l n = H at HH HE
  generalize low g 8 = G at HG had
  have n1 : (n : Int) ≤ 64 := by omega
  have HB : Hid (Calls Try.prog 9 #[.slice (some ⟨w.heap.size, 0, none⟩) 4 4] (w.alloc (.cells #[.bool true, .int .i64 1, .bool true, .int .i64 1, .bool true, .int .i64 4, .bool true, .int .i64 4] 35)) fun e w' => e = .returned (.int .i64 0) ∧ Below w.heap.size w w') :=
    Lib.hid ((refusal_four true true true true 1 1 4 4 _ _ (Blk.new w _ _)).mono fun e w' h => ⟨h.1, bt (ba (Below.refl _ _) _) h.2⟩)
  clear hn hk ha hi hg hl hd
  go_enter Try.func6, Try.ntmps6
  go_wp2_with fail
  refine (HS.out _).mono ?_
  rintro e w1 ⟨rfl, rfl⟩
  go_wp2_with fail
  refine (HK.out _).mono ?_
  rintro e w2 ⟨rfl, rfl⟩
  go_wp2_with fail
  refine (HY.out _).mono ?_
  rintro e w3 ⟨rfl, rfl⟩
  go_wp2_with fail
  refine HB.out.mono ?_
  rintro e w4 ⟨rfl, hb4⟩
  go_wp2_with fail
  refine (HN.out _).mono ?_
  rintro e w5 ⟨rfl, hb5⟩
  have hb5 := bt hb4 hb5
  go_wp2_with fail
  refine (HH.out _).mono ?_
  rintro e w6 ⟨rfl, hb6⟩
  have hb6 := bt hb5 hb6
  go_wp2_with fail
  refine (HE.out _).mono ?_
  rintro e w7 ⟨rfl, hb7⟩
  have hb7 := bt hb6 hb7
  go_wp2_with fail
  refine (HG.out _).mono ?_
  rintro e w8 ⟨rfl, hb8⟩
  have hb8 := bt hb7 hb8
  clear hb4 hb5 hb6 hb7
  go_wp2_with fail
  go_ret2
  exact ⟨rfl, hb8⟩
end Go.Proofs.Ytcecjoodlmpgnaa
/- The contract of Open. -/
namespace Go.Proofs.Ytcecjoodlmpgnaa
open Go.RowKit

/-- What Open tells. -/
def wopenR (o : Option (Nat × List UInt8)) : Value := .tuple #[.int .u64 ((o.getD (0, [])).1 : Int), .string ⟨(o.getD (0, [])).2.toArray⟩, .int .i64 (if o.isSome then 0 else 5)]

set_option maxRecDepth 100000 in
set_option maxHeartbeats 1000000 in
theorem wopen_no (k s : List UInt8) (kind a : Int) (l : Nat) (w : World) (R : Int) (hk : (k.length : Int) ≤ 9223372036854775807) (hs : (s.length : Int) ≤ 9223372036854775807)
    (hR : ∀ b3 : Bool, (24 ≤ s.length ∧ s.length ≤ 88 → b3 = true) → (¬ (24 ≤ s.length ∧ s.length ≤ 88) → b3 = false) → refuse [(atB a, 1), (kindB kind, 1), (keyB k, 4), (b3, 5)] = R) (h0 : (R != 0) = true) :
    Calls Try.prog 8 #[.string ⟨k.toArray⟩, .int .i64 kind, .int .i64 a, .int .u64 (l : Int), .string ⟨s.toArray⟩] w fun e w' => e = .returned (.tuple #[.int .u64 0, .string ⟨#[]⟩, .int .i64 R]) ∧ Below w.heap.size w w' := by
  have HS := Lib.hid (fun W => isSector_any a W)
  have HK := Lib.hid (fun W => isKind_any kind W)
  have HY := Lib.hid (fun W => wisKey_any k W hk)
  have hz := size_of s
  obtain ⟨n, hn⟩ : ∃ n, s.length = n := ⟨_, rfl⟩
  rw [hn] at hz hs hR
  generalize atB a = b0 at HS hR
  generalize kindB kind = b1 at HK hR
  generalize keyB k = b2 at HY hR
  have HB : Hid (∀ b3 : Bool, (24 ≤ n ∧ n ≤ 88 → b3 = true) → (¬ (24 ≤ n ∧ n ≤ 88) → b3 = false) → Calls Try.prog 9 #[.slice (some ⟨w.heap.size, 0, none⟩) 4 4] (w.alloc (.cells #[.bool b0, .int .i64 1, .bool b1, .int .i64 1, .bool b2, .int .i64 4, .bool b3, .int .i64 5] 35)) fun e w' => e = .returned (.int .i64 R) ∧ Below w.heap.size w w') := Lib.hid fun b3 h3 h4 =>
    (refusal_four b0 b1 b2 b3 1 1 4 5 _ _ (Blk.new w _ _)).mono fun e w' h => ⟨by rw [← hR b3 h3 h4]; exact h.1, bt (ba (Below.refl _ _) _) h.2⟩
  obtain ⟨q, hq⟩ : ∃ q : Int, (n : Int) - 24 = q := ⟨_, rfl⟩
  have q1 : -24 ≤ q := by omega
  have q2 : q ≤ 9223372036854775783 := by omega
  by_cases h24 : 0 ≤ q
  · have HB := Lib.hid (HB.out (decide (q ≤ 64)) (by simp; omega) (by simp; omega))
    clear hR hn hk
    go_enter Try.func8, Try.ntmps8
    go_wp2_with fail
    refine (HS.out _).mono ?_
    rintro e w1 ⟨rfl, rfl⟩
    go_wp2_with fail
    refine (HK.out _).mono ?_
    rintro e w2 ⟨rfl, rfl⟩
    go_wp2_with fail
    refine (HY.out _).mono ?_
    rintro e w3 ⟨rfl, rfl⟩
    go_wp2_with fail
    refine HB.out.mono ?_
    rintro e w4 ⟨rfl, hb4⟩
    go_wp2_with fail
    go_ret3
    exact ⟨rfl, hb4⟩
  · have HB := Lib.hid (HB.out false (by omega) (by simp))
    clear hR hn hk
    go_enter Try.func8, Try.ntmps8
    go_wp2_with fail
    refine (HS.out _).mono ?_
    rintro e w1 ⟨rfl, rfl⟩
    go_wp2_with fail
    refine (HK.out _).mono ?_
    rintro e w2 ⟨rfl, rfl⟩
    go_wp2_with fail
    refine (HY.out _).mono ?_
    rintro e w3 ⟨rfl, rfl⟩
    go_wp2_with fail
    refine HB.out.mono ?_
    rintro e w4 ⟨rfl, hb4⟩
    go_wp2_with fail
    go_ret3
    exact ⟨rfl, hb4⟩

set_option maxRecDepth 100000 in
set_option maxHeartbeats 4000000 in
theorem wopen_yes (k s : List UInt8) (kind a l : Nat) (w : World) (hk : k.length = 16 ∨ k.length = 32) (hs : (s.length : Int) ≤ 9223372036854775807) (ha : a ≤ 63) (hi : kind ≤ 2) (hl : (l : Int) ≤ 18446744073709551615) :
    Calls Try.prog 8 #[.string ⟨k.toArray⟩, .int .i64 (kind : Int), .int .i64 (a : Int), .int .u64 (l : Int), .string ⟨s.toArray⟩] w fun e w' => e = .returned (wopenR (wopen (encL k) kind a l s)) ∧ Below w.heap.size w w' := by
  have hA : atB (a : Int) = true := by simp [atB]; omega
  have hI : kindB (kind : Int) = true := by simp [kindB]; omega
  have hY : keyB k = true := by simp [keyB]; omega
  by_cases h : 24 ≤ s.length ∧ s.length ≤ 88
  · have HS := Lib.hid (fun W => isSector_any a W)
    have HK := Lib.hid (fun W => isKind_any kind W)
    have HYY := Lib.hid (fun W => wisKey_any k W (by omega))
    rw [hA] at HS
    rw [hI] at HK
    rw [hY] at HYY
    obtain ⟨m, hm⟩ : ∃ m, s.length = m + 24 := ⟨s.length - 24, by omega⟩
    have hm2 : s.length - 24 = m := by omega
    have l8 : (s.take 8).length = 8 := by rw [List.length_take]; omega
    have HG := Lib.hid (fun W => generation_any (s.take 8) W l8)
    have hv := val_lt (s.take 8)
    rw [l8] at hv
    unfold wopen
    rw [if_pos h, hm2]
    generalize val (s.take 8) = v at HG hv ⊢
    have HN := Lib.hid (fun W => nonceOf_any a v W ha (by omega))
    have HH := Lib.hid (fun W => headOf_any kind l m W hi hl (by omega))
    have HO := Lib.hid (fun W => open_yes k (wnonce a v) (whead kind l m) (s.drop 8) W (by simp [kfit, wnonce_len]; exact hk) (by rw [whead_len]; omega) (by rw [List.length_drop]; omega) (by rw [List.length_drop]; omega))
    have hx1 := kextract s 0 8
    rw [List.drop_zero] at hx1
    have hx2 := kextract s 8 (m + 24)
    rw [List.take_of_length_le (by omega)] at hx2
    have hz := size_of s
    rw [hm] at hz
    have HB : Hid (Calls Try.prog 9 #[.slice (some ⟨w.heap.size, 0, none⟩) 4 4] (w.alloc (.cells #[.bool true, .int .i64 1, .bool true, .int .i64 1, .bool true, .int .i64 4, .bool true, .int .i64 5] 35)) fun e w' => e = .returned (.int .i64 0) ∧ Below w.heap.size w w') :=
      Lib.hid ((refusal_four true true true true 1 1 4 5 _ _ (Blk.new w _ _)).mono fun e w' h => ⟨h.1, bt (ba (Below.refl _ _) _) h.2⟩)
    generalize openL (encL k) (wnonce a v) (whead kind l m) (s.drop 8) = o at HO ⊢
    generalize s.take 8 = S8 at HG hx1
    generalize s.drop 8 = D8 at HO hx2
    generalize wnonce a v = N at HN HO
    generalize whead kind l m = H at HH HO
    obtain ⟨n, hn⟩ : ∃ n, m + 24 = n := ⟨_, rfl⟩
    rw [hn] at hz hx2
    have n0 : (n : Int) - 24 = (m : Int) := by omega
    have n1 : (m : Int) ≤ 64 := by omega
    have n2 : (0 : Int) ≤ (m : Int) := by omega
    have n3 : (8 : Int) ≤ (n : Int) := by omega
    have n4 : 8 ≤ n := by omega
    have n5 : (n : Int) ≤ 88 := by omega
    clear h hm hm2 l8 hv hA hI hY hk hs ha hi hl hn
    cases o with
    | none =>
      rw [show openR none = .tuple #[.string ⟨#[]⟩, .int .i64 5] from rfl] at HO
      rw [show wopenR (Option.map (fun t => (v, t)) none) = .tuple #[.int .u64 0, .string ⟨#[]⟩, .int .i64 5] from rfl]
      go_enter Try.func8, Try.ntmps8
      go_wp2_with fail
      refine (HS.out _).mono ?_
      rintro e w1 ⟨rfl, rfl⟩
      go_wp2_with fail
      refine (HK.out _).mono ?_
      rintro e w2 ⟨rfl, rfl⟩
      go_wp2_with fail
      refine (HYY.out _).mono ?_
      rintro e w3 ⟨rfl, rfl⟩
      go_wp2_with fail
      refine HB.out.mono ?_
      rintro e w4 ⟨rfl, hb4⟩
      go_wp2_with fail
      refine (HG.out _).mono ?_
      rintro e w5 ⟨rfl, hb5⟩
      have hb5 := bt hb4 hb5
      clear hb4 HS HK HYY HB HG
      go_wp2_with fail
      have hS0 : Below w.heap.size w w5.drew := hb5.drew
      go_region_held3 (fun W => Below w.heap.size w W) (first | assumption | exact hS0) (first
        | (go_at_call 11; (with_reducible refine (HN.out _).mono ?_); rintro e w6 ⟨rfl, hb6⟩; have hB6 := bt (by assumption : Below w.heap.size w _) hb6)
        | (go_at_call 15; (with_reducible refine (HH.out _).mono ?_); rintro e w7 ⟨rfl, hb7⟩; have hB7 := bt (by assumption : Below w.heap.size w _) hb7)
        | (go_at_call 18; (with_reducible refine (HO.out _).mono ?_); rintro e w8 ⟨rfl, hb8⟩; have hB8 := bt (by assumption : Below w.heap.size w _) hb8))
      all_goals (go_wp2_with fail; go_ret3; exact ⟨rfl, by assumption⟩)
    | some t =>
      rw [show openR (some t) = .tuple #[.string ⟨t.toArray⟩, .int .i64 0] from rfl] at HO
      rw [show wopenR (Option.map (fun t => (v, t)) (some t)) = .tuple #[.int .u64 (v : Int), .string ⟨t.toArray⟩, .int .i64 0] from rfl]
      go_enter Try.func8, Try.ntmps8
      go_wp2_with fail
      refine (HS.out _).mono ?_
      rintro e w1 ⟨rfl, rfl⟩
      go_wp2_with fail
      refine (HK.out _).mono ?_
      rintro e w2 ⟨rfl, rfl⟩
      go_wp2_with fail
      refine (HYY.out _).mono ?_
      rintro e w3 ⟨rfl, rfl⟩
      go_wp2_with fail
      refine HB.out.mono ?_
      rintro e w4 ⟨rfl, hb4⟩
      go_wp2_with fail
      refine (HG.out _).mono ?_
      rintro e w5 ⟨rfl, hb5⟩
      have hb5 := bt hb4 hb5
      clear hb4 HS HK HYY HB HG
      go_wp2_with fail
      have hS0 : Below w.heap.size w w5.drew := hb5.drew
      go_region_held3 (fun W => Below w.heap.size w W) (first | assumption | exact hS0) (first
        | (go_at_call 11; (with_reducible refine (HN.out _).mono ?_); rintro e w6 ⟨rfl, hb6⟩; have hB6 := bt (by assumption : Below w.heap.size w _) hb6)
        | (go_at_call 15; (with_reducible refine (HH.out _).mono ?_); rintro e w7 ⟨rfl, hb7⟩; have hB7 := bt (by assumption : Below w.heap.size w _) hb7)
        | (go_at_call 18; (with_reducible refine (HO.out _).mono ?_); rintro e w8 ⟨rfl, hb8⟩; have hB8 := bt (by assumption : Below w.heap.size w _) hb8))
      all_goals (go_wp2_with fail; go_ret3; exact ⟨rfl, by assumption⟩)
  · unfold wopen
    rw [if_neg h]
    refine (wopen_no k s kind a l w 5 (by omega) hs (fun b3 _ h4 => ?_) rfl).mono fun e w' h => h
    rw [hA, hI, hY, h4 h]
    rfl
end Go.Proofs.Ytcecjoodlmpgnaa
/- The contracts of stage 11's cut and alive. -/
namespace Go.Proofs.Ytcecjoodlmpgnaa
open Go.RowKit

set_option maxRecDepth 100000 in
set_option maxHeartbeats 1000000 in
theorem wcut_any (s : List UInt8) (w : World) (hs : (s.length : Int) ≤ 9223372036854775807) :
    Calls Try.prog 4 #[.string ⟨s.toArray⟩] w fun e w' => e = .returned (.string ⟨(s.take 100).toArray⟩) ∧ w = w' := by
  have hz := size_of s
  obtain ⟨N, hN⟩ : ∃ N, s.length = N := ⟨_, rfl⟩
  rw [hN] at hz hs
  obtain ⟨m, hm⟩ : ∃ m, min N 100 = m := ⟨_, rfl⟩
  have hex := extract_take s m
  have he : s.take m = s.take 100 := by
    rw [← hm]
    by_cases h : N ≤ 100
    · rw [Nat.min_eq_left h, List.take_of_length_le (by omega), List.take_of_length_le (by omega)]
    · rw [Nat.min_eq_right (by omega)]
  rw [he] at hex
  have h1 : (m : Int) ≤ (N : Int) := by omega
  have h2 : min (N : Int) 100 = (m : Int) := by omega
  have h3 : m ≤ N := by omega
  clear hm he hN
  go_enter Try.func4, Try.ntmps4
  go_wp2
  go_ret
  exact ⟨rfl, rfl⟩

/-- The key of alive. -/
def walKey : List UInt8 := [48, 49, 50, 51, 52, 53, 54, 55, 56, 57, 97, 98, 99, 100, 101, 102]
/-- What alive seals. -/
def walS : List UInt8 := wseal (encL walKey) 0 3 258 7 [104, 105]
theorem wal_seal (w : World) : Calls Try.prog 6 #[.string ⟨#[48, 49, 50, 51, 52, 53, 54, 55, 56, 57, 97, 98, 99, 100, 101, 102]⟩, .int .i64 0, .int .i64 3, .int .u64 258, .int .u64 7, .string ⟨#[104, 105]⟩] w fun e w' => e = .returned (.tuple #[.string ⟨walS.toArray⟩, .int .i64 0]) ∧ Below w.heap.size w w' :=
  wseal_yes walKey [104, 105] 0 3 258 7 w (.inl rfl) (by decide) (by decide) (by decide) (by decide) (by decide)
theorem wal_open (w : World) : Calls Try.prog 8 #[.string ⟨#[48, 49, 50, 51, 52, 53, 54, 55, 56, 57, 97, 98, 99, 100, 101, 102]⟩, .int .i64 0, .int .i64 3, .int .u64 7, .string ⟨walS.toArray⟩] w fun e w' => e = .returned (.tuple #[.int .u64 258, .string ⟨#[104, 105]⟩, .int .i64 0]) ∧ Below w.heap.size w w' := by
  have hl : walS.length = 26 := wseal_len _ _
  have h := wopen_yes walKey walS 0 3 7 w (.inl rfl) (by rw [hl]; decide) (by decide) (by decide) (by decide)
  rw [show wopen (encL walKey) 0 3 7 walS = some (258, [104, 105]) from wopen_seal (by decide) (by decide)] at h
  exact h
set_option maxRecDepth 100000 in
set_option maxHeartbeats 1000000 in
theorem walive_any (w : World) : Calls Try.prog 7 #[] w fun e w' => e = .returned (.bool true) ∧ Below w.heap.size w w' := by
  have H1 := Lib.hid wal_seal
  have H2 := Lib.hid wal_open
  have hz := size_of walS
  rw [show walS.length = 26 from wseal_len _ _] at hz
  generalize walS = S at H1 H2 hz
  go_enter Try.func7, Try.ntmps7
  go_wp2_with fail
  refine (H1.out _).mono ?_
  rintro e w1 ⟨rfl, hb1⟩
  go_wp2_with fail
  refine (H2.out _).mono ?_
  rintro e w2 ⟨rfl, hb2⟩
  have hb := bt hb1 hb2
  clear hb1 hb2
  go_wp2_with fail
  go_ret
  exact ⟨rfl, hb⟩
end Go.Proofs.Ytcecjoodlmpgnaa
/- The walk of SealBack. -/
namespace Go.Proofs.Ytcecjoodlmpgnaa
open Go.ChangeShapes Go.WideShapes Go.ChangeAt Go.RowKit Go.Joins Go.Deep


set_option maxRecDepth 100000 in
set_option maxHeartbeats 8000000 in
theorem sback_no (k0 d0 t0 k d t N1 N2  : List UInt8) (kind a b e1 f1 R : Int) (g l m : Nat) (w : World)
    (HC1 : Hid (∀ W, Calls Try.prog 4 #[.string ⟨k0.toArray⟩] W fun e w' => e = .returned (.string ⟨k.toArray⟩) ∧ W = w'))
    (HC2 : Hid (∀ W, Calls Try.prog 4 #[.string ⟨d0.toArray⟩] W fun e w' => e = .returned (.string ⟨d.toArray⟩) ∧ W = w'))
    (HC3 : Hid (∀ W, Calls Try.prog 4 #[.string ⟨t0.toArray⟩] W fun e w' => e = .returned (.string ⟨t.toArray⟩) ∧ W = w'))
    (HN1 : Hid (∀ W, Calls Try.prog 5 #[.int .i64 a, .int .u64 (g : Int)] W fun e w' => e = .returned (.tuple #[.string ⟨N1.toArray⟩, .int .i64 e1]) ∧ Below W.heap.size W w'))
    (HN2 : Hid (∀ W, Calls Try.prog 5 #[.int .i64 b, .int .u64 (m : Int)] W fun e w' => e = .returned (.tuple #[.string ⟨N2.toArray⟩, .int .i64 f1]) ∧ Below W.heap.size W w'))
    (P : (e1 = 1) ∨ (e1 = 0 ∧ f1 = 1) ∨ (e1 = 0 ∧ f1 = 0 ∧ (N1 == N2) = true ∧ (a == b) = true ∧ ((g : Int) == (m : Int)) = true) ∨ (e1 = 0 ∧ f1 = 0 ∧ (N1 == N2) = false ∧ (a == b) = false) ∨ (e1 = 0 ∧ f1 = 0 ∧ (N1 == N2) = false ∧ (a == b) = true ∧ ((g : Int) == (m : Int)) = false))
    (HS : Hid (∀ W, Calls Try.prog 6 #[.string ⟨k.toArray⟩, .int .i64 kind, .int .i64 a, .int .u64 (g : Int), .int .u64 (l : Int), .string ⟨d.toArray⟩] W fun e w' => e = .returned (.tuple #[.string ⟨#[]⟩, .int .i64 R]) ∧ Below W.heap.size W w'))
    (h0 : (R != 0) = true)    :
    Calls Try.prog 3 #[.string ⟨k0.toArray⟩, .int .i64 kind, .int .i64 a, .int .u64 (g : Int), .int .u64 (l : Int), .string ⟨d0.toArray⟩, .string ⟨t0.toArray⟩, .int .i64 b, .int .u64 (m : Int)] w fun e w' => e = .returned (.bool true) ∧ Below w.heap.size w w' := by
  have HL := Lib.hid walive_any
  rcases P with rfl | ⟨rfl, rfl⟩ | ⟨rfl, rfl, p1, p2, p3⟩ | ⟨rfl, rfl, p1, p2⟩ | ⟨rfl, rfl, p1, p2, p3⟩
  all_goals
    go_enter Try.func3, Try.ntmps3
    go_wp2_with fail
    refine (HC1.out _).mono ?_
    rintro e w1 ⟨rfl, rfl⟩
    go_wp2_with fail
    refine (HC2.out _).mono ?_
    rintro e w2 ⟨rfl, rfl⟩
    go_wp2_with fail
    refine (HC3.out _).mono ?_
    rintro e w3 ⟨rfl, rfl⟩
    go_wp2_with fail
    refine (HN1.out _).mono ?_
    rintro e w4 ⟨rfl, hb4⟩
    go_wp2_with fail
    refine (HN2.out _).mono ?_
    rintro e w5 ⟨rfl, hb5⟩
    have hb5 := bt hb4 hb5
    clear hb4
    go_wp2_with fail
    refine (HS.out _).mono ?_
    rintro e w6 ⟨rfl, hb6⟩
    have hb6 := bt hb5 hb6
    clear hb5
    go_wp2_with fail
    refine (HL.out _).mono ?_
    rintro e w7 ⟨rfl, hb7⟩
    have hb7 := bt hb6 hb7
    clear hb6
    go_wp2_with fail
    go_ret
    exact ⟨rfl, hb7⟩

set_option maxRecDepth 100000 in
set_option maxHeartbeats 8000000 in
theorem sback_none (k0 d0 t0 k d t N1 N2 S : List UInt8) (kind a b e1 f1 : Int) (g l m : Nat) (w : World)
    (HC1 : Hid (∀ W, Calls Try.prog 4 #[.string ⟨k0.toArray⟩] W fun e w' => e = .returned (.string ⟨k.toArray⟩) ∧ W = w'))
    (HC2 : Hid (∀ W, Calls Try.prog 4 #[.string ⟨d0.toArray⟩] W fun e w' => e = .returned (.string ⟨d.toArray⟩) ∧ W = w'))
    (HC3 : Hid (∀ W, Calls Try.prog 4 #[.string ⟨t0.toArray⟩] W fun e w' => e = .returned (.string ⟨t.toArray⟩) ∧ W = w'))
    (HN1 : Hid (∀ W, Calls Try.prog 5 #[.int .i64 a, .int .u64 (g : Int)] W fun e w' => e = .returned (.tuple #[.string ⟨N1.toArray⟩, .int .i64 e1]) ∧ Below W.heap.size W w'))
    (HN2 : Hid (∀ W, Calls Try.prog 5 #[.int .i64 b, .int .u64 (m : Int)] W fun e w' => e = .returned (.tuple #[.string ⟨N2.toArray⟩, .int .i64 f1]) ∧ Below W.heap.size W w'))
    (P : (e1 = 1) ∨ (e1 = 0 ∧ f1 = 1) ∨ (e1 = 0 ∧ f1 = 0 ∧ (N1 == N2) = true ∧ (a == b) = true ∧ ((g : Int) == (m : Int)) = true) ∨ (e1 = 0 ∧ f1 = 0 ∧ (N1 == N2) = false ∧ (a == b) = false) ∨ (e1 = 0 ∧ f1 = 0 ∧ (N1 == N2) = false ∧ (a == b) = true ∧ ((g : Int) == (m : Int)) = false))
    (HS : Hid (∀ W, Calls Try.prog 6 #[.string ⟨k.toArray⟩, .int .i64 kind, .int .i64 a, .int .u64 (g : Int), .int .u64 (l : Int), .string ⟨d.toArray⟩] W fun e w' => e = .returned (.tuple #[.string ⟨S.toArray⟩, .int .i64 0]) ∧ Below W.heap.size W w'))
    (HO : Hid (∀ W, Calls Try.prog 8 #[.string ⟨k.toArray⟩, .int .i64 kind, .int .i64 a, .int .u64 (l : Int), .string ⟨S.toArray⟩] W fun e w' => e = .returned (.tuple #[.int .u64 (g : Int), .string ⟨d.toArray⟩, .int .i64 0]) ∧ Below W.heap.size W w'))
    (hq : S.length = d.length + 24) (hd : d.length ≤ 64)
    (HT : Hid (∀ W, Calls Try.prog 8 #[.string ⟨k.toArray⟩, .int .i64 kind, .int .i64 a, .int .u64 (l : Int), .string ⟨t.toArray⟩] W fun e w' => e = .returned (.tuple #[.int .u64 0, .string ⟨#[]⟩, .int .i64 5]) ∧ Below W.heap.size W w'))
    :
    Calls Try.prog 3 #[.string ⟨k0.toArray⟩, .int .i64 kind, .int .i64 a, .int .u64 (g : Int), .int .u64 (l : Int), .string ⟨d0.toArray⟩, .string ⟨t0.toArray⟩, .int .i64 b, .int .u64 (m : Int)] w fun e w' => e = .returned (.bool true) ∧ Below w.heap.size w w' := by
  have HL := Lib.hid walive_any
  have hz := size_of S
  have hy := size_of d
  obtain ⟨n, hn⟩ : ∃ n, d.length = n := ⟨_, rfl⟩
  rw [hn] at hy hq
  rw [hq] at hz
  have hq2 : (n : Int) + 24 = ((n + 24 : Nat) : Int) := by omega
  obtain ⟨q, hqq⟩ : ∃ q, n + 24 = q := ⟨_, rfl⟩
  rw [hqq] at hz hq2
  have n1 : (n : Int) ≤ 64 := by omega
  clear hn hq hqq
  rcases P with rfl | ⟨rfl, rfl⟩ | ⟨rfl, rfl, p1, p2, p3⟩ | ⟨rfl, rfl, p1, p2⟩ | ⟨rfl, rfl, p1, p2, p3⟩
  all_goals
    go_enter Try.func3, Try.ntmps3
    go_wp2_with fail
    refine (HC1.out _).mono ?_
    rintro e w1 ⟨rfl, rfl⟩
    go_wp2_with fail
    refine (HC2.out _).mono ?_
    rintro e w2 ⟨rfl, rfl⟩
    go_wp2_with fail
    refine (HC3.out _).mono ?_
    rintro e w3 ⟨rfl, rfl⟩
    go_wp2_with fail
    refine (HN1.out _).mono ?_
    rintro e w4 ⟨rfl, hb4⟩
    go_wp2_with fail
    refine (HN2.out _).mono ?_
    rintro e w5 ⟨rfl, hb5⟩
    have hb5 := bt hb4 hb5
    clear hb4
    go_wp2_with fail
    refine (HS.out _).mono ?_
    rintro e w6 ⟨rfl, hb6⟩
    have hb6 := bt hb5 hb6
    clear hb5
    go_wp2_with fail
    refine (HO.out _).mono ?_
    rintro e w7 ⟨rfl, hb7⟩
    have hb7 := bt hb6 hb7
    clear hb6
    go_wp2_with fail
    refine (HL.out _).mono ?_
    rintro e w8 ⟨rfl, hb8⟩
    have hb8 := bt hb7 hb8
    clear hb7
    go_wp2_with fail
    refine (HT.out _).mono ?_
    rintro e w9 ⟨rfl, hb9⟩
    have hb9 := bt hb8 hb9
    clear hb8
    go_wp2_with fail
    go_ret
    exact ⟨rfl, hb9⟩

set_option maxRecDepth 100000 in
set_option maxHeartbeats 8000000 in
theorem sback_some (k0 d0 t0 k d t N1 N2 S u : List UInt8) (kind a b e1 f1 : Int) (g l m h : Nat) (w : World)
    (HC1 : Hid (∀ W, Calls Try.prog 4 #[.string ⟨k0.toArray⟩] W fun e w' => e = .returned (.string ⟨k.toArray⟩) ∧ W = w'))
    (HC2 : Hid (∀ W, Calls Try.prog 4 #[.string ⟨d0.toArray⟩] W fun e w' => e = .returned (.string ⟨d.toArray⟩) ∧ W = w'))
    (HC3 : Hid (∀ W, Calls Try.prog 4 #[.string ⟨t0.toArray⟩] W fun e w' => e = .returned (.string ⟨t.toArray⟩) ∧ W = w'))
    (HN1 : Hid (∀ W, Calls Try.prog 5 #[.int .i64 a, .int .u64 (g : Int)] W fun e w' => e = .returned (.tuple #[.string ⟨N1.toArray⟩, .int .i64 e1]) ∧ Below W.heap.size W w'))
    (HN2 : Hid (∀ W, Calls Try.prog 5 #[.int .i64 b, .int .u64 (m : Int)] W fun e w' => e = .returned (.tuple #[.string ⟨N2.toArray⟩, .int .i64 f1]) ∧ Below W.heap.size W w'))
    (P : (e1 = 1) ∨ (e1 = 0 ∧ f1 = 1) ∨ (e1 = 0 ∧ f1 = 0 ∧ (N1 == N2) = true ∧ (a == b) = true ∧ ((g : Int) == (m : Int)) = true) ∨ (e1 = 0 ∧ f1 = 0 ∧ (N1 == N2) = false ∧ (a == b) = false) ∨ (e1 = 0 ∧ f1 = 0 ∧ (N1 == N2) = false ∧ (a == b) = true ∧ ((g : Int) == (m : Int)) = false))
    (HS : Hid (∀ W, Calls Try.prog 6 #[.string ⟨k.toArray⟩, .int .i64 kind, .int .i64 a, .int .u64 (g : Int), .int .u64 (l : Int), .string ⟨d.toArray⟩] W fun e w' => e = .returned (.tuple #[.string ⟨S.toArray⟩, .int .i64 0]) ∧ Below W.heap.size W w'))
    (HO : Hid (∀ W, Calls Try.prog 8 #[.string ⟨k.toArray⟩, .int .i64 kind, .int .i64 a, .int .u64 (l : Int), .string ⟨S.toArray⟩] W fun e w' => e = .returned (.tuple #[.int .u64 (g : Int), .string ⟨d.toArray⟩, .int .i64 0]) ∧ Below W.heap.size W w'))
    (hq : S.length = d.length + 24) (hd : d.length ≤ 64)
    (HT : Hid (∀ W, Calls Try.prog 8 #[.string ⟨k.toArray⟩, .int .i64 kind, .int .i64 a, .int .u64 (l : Int), .string ⟨t.toArray⟩] W fun e w' => e = .returned (.tuple #[.int .u64 (h : Int), .string ⟨u.toArray⟩, .int .i64 0]) ∧ Below W.heap.size W w'))
    (HA : Hid (∀ W, Calls Try.prog 6 #[.string ⟨k.toArray⟩, .int .i64 kind, .int .i64 a, .int .u64 (h : Int), .int .u64 (l : Int), .string ⟨u.toArray⟩] W fun e w' => e = .returned (.tuple #[.string ⟨t.toArray⟩, .int .i64 0]) ∧ Below W.heap.size W w'))
    :
    Calls Try.prog 3 #[.string ⟨k0.toArray⟩, .int .i64 kind, .int .i64 a, .int .u64 (g : Int), .int .u64 (l : Int), .string ⟨d0.toArray⟩, .string ⟨t0.toArray⟩, .int .i64 b, .int .u64 (m : Int)] w fun e w' => e = .returned (.bool true) ∧ Below w.heap.size w w' := by
  have HL := Lib.hid walive_any
  have hz := size_of S
  have hy := size_of d
  obtain ⟨n, hn⟩ : ∃ n, d.length = n := ⟨_, rfl⟩
  rw [hn] at hy hq
  rw [hq] at hz
  have hq2 : (n : Int) + 24 = ((n + 24 : Nat) : Int) := by omega
  obtain ⟨q, hqq⟩ : ∃ q, n + 24 = q := ⟨_, rfl⟩
  rw [hqq] at hz hq2
  have n1 : (n : Int) ≤ 64 := by omega
  clear hn hq hqq
  rcases P with rfl | ⟨rfl, rfl⟩ | ⟨rfl, rfl, p1, p2, p3⟩ | ⟨rfl, rfl, p1, p2⟩ | ⟨rfl, rfl, p1, p2, p3⟩
  all_goals
    go_enter Try.func3, Try.ntmps3
    go_wp2_with fail
    refine (HC1.out _).mono ?_
    rintro e w1 ⟨rfl, rfl⟩
    go_wp2_with fail
    refine (HC2.out _).mono ?_
    rintro e w2 ⟨rfl, rfl⟩
    go_wp2_with fail
    refine (HC3.out _).mono ?_
    rintro e w3 ⟨rfl, rfl⟩
    go_wp2_with fail
    refine (HN1.out _).mono ?_
    rintro e w4 ⟨rfl, hb4⟩
    go_wp2_with fail
    refine (HN2.out _).mono ?_
    rintro e w5 ⟨rfl, hb5⟩
    have hb5 := bt hb4 hb5
    clear hb4
    go_wp2_with fail
    refine (HS.out _).mono ?_
    rintro e w6 ⟨rfl, hb6⟩
    have hb6 := bt hb5 hb6
    clear hb5
    go_wp2_with fail
    refine (HO.out _).mono ?_
    rintro e w7 ⟨rfl, hb7⟩
    have hb7 := bt hb6 hb7
    clear hb6
    go_wp2_with fail
    refine (HL.out _).mono ?_
    rintro e w8 ⟨rfl, hb8⟩
    have hb8 := bt hb7 hb8
    clear hb7
    go_wp2_with fail
    refine (HT.out _).mono ?_
    rintro e w9 ⟨rfl, hb9⟩
    have hb9 := bt hb8 hb9
    clear hb8
    go_wp2_with fail
    refine (HA.out _).mono ?_
    rintro e w10 ⟨rfl, hb10⟩
    have hb10 := bt hb9 hb10
    clear hb9
    go_wp2_with fail
    go_ret
    exact ⟨rfl, hb10⟩
end Go.Proofs.Ytcecjoodlmpgnaa
/- What Nonce tells of any sector; the places and kinds that may be. -/
namespace Go.Proofs.Ytcecjoodlmpgnaa
open Go.RowKit

theorem atB_yes {a : Int} (h : atB a = true) : ∃ n : Nat, a = (n : Int) ∧ n ≤ 63 := by
  simp [atB] at h
  exact ⟨a.toNat, by omega, by omega⟩
theorem kindB_yes {a : Int} (h : kindB a = true) : ∃ n : Nat, a = (n : Int) ∧ n ≤ 2 := by
  simp [kindB] at h
  exact ⟨a.toNat, by omega, by omega⟩
theorem keyB_yes {k : List UInt8} (h : keyB k = true) : k.length = 16 ∨ k.length = 32 := by
  simp [keyB] at h
  exact h
/-- What Nonce tells, whatever the sector. -/
theorem wnonce_any (a : Int) (g : Nat) (hg : (g : Int) ≤ 18446744073709551615) : ∃ N e1, Hid (∀ W, Calls Try.prog 5 #[.int .i64 a, .int .u64 (g : Int)] W fun e w' => e = .returned (.tuple #[.string ⟨N.toArray⟩, .int .i64 e1]) ∧ Below W.heap.size W w') ∧ (atB a = false → e1 = 1) ∧ (atB a = true → e1 = 0 ∧ N = wnonce a.toNat g) := by
  cases h : atB a with
  | false => exact ⟨[], 1, Lib.hid (fun W => wnonce_no a g W h), ⟨fun _ => rfl, fun h => absurd h (by decide)⟩⟩
  | true =>
    obtain ⟨n, rfl, hn⟩ := atB_yes h
    exact ⟨wnonce n g, 0, Lib.hid (fun W => wnonce_yes n g W hn hg), ⟨fun h => absurd h (by decide), fun _ => ⟨rfl, by simp⟩⟩⟩

end Go.Proofs.Ytcecjoodlmpgnaa
/- Five to ten parameters, parted. Nothing of any function. -/
namespace Go.Proofs.Ytcecjoodlmpgnaa
open Go.ChangeShapes
section
variable {H : Type} {enc : TypeId × Value → H} {P : Program} {w : World} {base : Nat} {spare : Nat → Bool} {held : Bool}
theorem trodAll_five {t0 t1 t2 t3 t4 : TypeId} {args : Array Value} {ds : List (DataW H)} {ps : List MemPlace} (h : DataW.TrodAll enc P w base spare held [t0, t1, t2, t3, t4] args.toList ds ps) :
    ∃ v0 v1 v2 v3 v4 d0 d1 d2 d3 d4 p0 p1 p2 p3 p4, args = #[v0, v1, v2, v3, v4] ∧ ds = [d0, d1, d2, d3, d4] ∧ ps = p0 ++ p1 ++ p2 ++ p3 ++ p4 ∧ DataW.Trod enc P w base spare held t0 v0 d0 p0 ∧ DataW.Trod enc P w base spare held t1 v1 d1 p1 ∧ DataW.Trod enc P w base spare held t2 v2 d2 p2 ∧ DataW.Trod enc P w base spare held t3 v3 d3 p3 ∧ DataW.Trod enc P w base spare held t4 v4 d4 p4 := by
  obtain ⟨v0, vs0, d0, ds0, p0, q0, hargs, rfl, rfl, hd0, hr0⟩ := trodAll_cons h
  obtain ⟨v1, vs1, d1, ds1, p1, q1, rfl, rfl, rfl, hd1, hr1⟩ := trodAll_cons hr0
  obtain ⟨v2, vs2, d2, ds2, p2, q2, rfl, rfl, rfl, hd2, hr2⟩ := trodAll_cons hr1
  obtain ⟨v3, vs3, d3, ds3, p3, q3, rfl, rfl, rfl, hd3, hr3⟩ := trodAll_cons hr2
  obtain ⟨v4, vs4, d4, ds4, p4, q4, rfl, rfl, rfl, hd4, hr4⟩ := trodAll_cons hr3
  obtain ⟨rfl, rfl, rfl⟩ := trodAll_nil hr4
  exact ⟨v0, v1, v2, v3, v4, d0, d1, d2, d3, d4, p0, p1, p2, p3, p4, by cases args; simp_all, rfl, by simp, hd0, hd1, hd2, hd3, hd4⟩
theorem trodAll_six {t0 t1 t2 t3 t4 t5 : TypeId} {args : Array Value} {ds : List (DataW H)} {ps : List MemPlace} (h : DataW.TrodAll enc P w base spare held [t0, t1, t2, t3, t4, t5] args.toList ds ps) :
    ∃ v0 v1 v2 v3 v4 v5 d0 d1 d2 d3 d4 d5 p0 p1 p2 p3 p4 p5, args = #[v0, v1, v2, v3, v4, v5] ∧ ds = [d0, d1, d2, d3, d4, d5] ∧ ps = p0 ++ p1 ++ p2 ++ p3 ++ p4 ++ p5 ∧ DataW.Trod enc P w base spare held t0 v0 d0 p0 ∧ DataW.Trod enc P w base spare held t1 v1 d1 p1 ∧ DataW.Trod enc P w base spare held t2 v2 d2 p2 ∧ DataW.Trod enc P w base spare held t3 v3 d3 p3 ∧ DataW.Trod enc P w base spare held t4 v4 d4 p4 ∧ DataW.Trod enc P w base spare held t5 v5 d5 p5 := by
  obtain ⟨v0, vs0, d0, ds0, p0, q0, hargs, rfl, rfl, hd0, hr0⟩ := trodAll_cons h
  obtain ⟨v1, vs1, d1, ds1, p1, q1, rfl, rfl, rfl, hd1, hr1⟩ := trodAll_cons hr0
  obtain ⟨v2, vs2, d2, ds2, p2, q2, rfl, rfl, rfl, hd2, hr2⟩ := trodAll_cons hr1
  obtain ⟨v3, vs3, d3, ds3, p3, q3, rfl, rfl, rfl, hd3, hr3⟩ := trodAll_cons hr2
  obtain ⟨v4, vs4, d4, ds4, p4, q4, rfl, rfl, rfl, hd4, hr4⟩ := trodAll_cons hr3
  obtain ⟨v5, vs5, d5, ds5, p5, q5, rfl, rfl, rfl, hd5, hr5⟩ := trodAll_cons hr4
  obtain ⟨rfl, rfl, rfl⟩ := trodAll_nil hr5
  exact ⟨v0, v1, v2, v3, v4, v5, d0, d1, d2, d3, d4, d5, p0, p1, p2, p3, p4, p5, by cases args; simp_all, rfl, by simp, hd0, hd1, hd2, hd3, hd4, hd5⟩
theorem trodAll_seven {t0 t1 t2 t3 t4 t5 t6 : TypeId} {args : Array Value} {ds : List (DataW H)} {ps : List MemPlace} (h : DataW.TrodAll enc P w base spare held [t0, t1, t2, t3, t4, t5, t6] args.toList ds ps) :
    ∃ v0 v1 v2 v3 v4 v5 v6 d0 d1 d2 d3 d4 d5 d6 p0 p1 p2 p3 p4 p5 p6, args = #[v0, v1, v2, v3, v4, v5, v6] ∧ ds = [d0, d1, d2, d3, d4, d5, d6] ∧ ps = p0 ++ p1 ++ p2 ++ p3 ++ p4 ++ p5 ++ p6 ∧ DataW.Trod enc P w base spare held t0 v0 d0 p0 ∧ DataW.Trod enc P w base spare held t1 v1 d1 p1 ∧ DataW.Trod enc P w base spare held t2 v2 d2 p2 ∧ DataW.Trod enc P w base spare held t3 v3 d3 p3 ∧ DataW.Trod enc P w base spare held t4 v4 d4 p4 ∧ DataW.Trod enc P w base spare held t5 v5 d5 p5 ∧ DataW.Trod enc P w base spare held t6 v6 d6 p6 := by
  obtain ⟨v0, vs0, d0, ds0, p0, q0, hargs, rfl, rfl, hd0, hr0⟩ := trodAll_cons h
  obtain ⟨v1, vs1, d1, ds1, p1, q1, rfl, rfl, rfl, hd1, hr1⟩ := trodAll_cons hr0
  obtain ⟨v2, vs2, d2, ds2, p2, q2, rfl, rfl, rfl, hd2, hr2⟩ := trodAll_cons hr1
  obtain ⟨v3, vs3, d3, ds3, p3, q3, rfl, rfl, rfl, hd3, hr3⟩ := trodAll_cons hr2
  obtain ⟨v4, vs4, d4, ds4, p4, q4, rfl, rfl, rfl, hd4, hr4⟩ := trodAll_cons hr3
  obtain ⟨v5, vs5, d5, ds5, p5, q5, rfl, rfl, rfl, hd5, hr5⟩ := trodAll_cons hr4
  obtain ⟨v6, vs6, d6, ds6, p6, q6, rfl, rfl, rfl, hd6, hr6⟩ := trodAll_cons hr5
  obtain ⟨rfl, rfl, rfl⟩ := trodAll_nil hr6
  exact ⟨v0, v1, v2, v3, v4, v5, v6, d0, d1, d2, d3, d4, d5, d6, p0, p1, p2, p3, p4, p5, p6, by cases args; simp_all, rfl, by simp, hd0, hd1, hd2, hd3, hd4, hd5, hd6⟩
theorem trodAll_eight {t0 t1 t2 t3 t4 t5 t6 t7 : TypeId} {args : Array Value} {ds : List (DataW H)} {ps : List MemPlace} (h : DataW.TrodAll enc P w base spare held [t0, t1, t2, t3, t4, t5, t6, t7] args.toList ds ps) :
    ∃ v0 v1 v2 v3 v4 v5 v6 v7 d0 d1 d2 d3 d4 d5 d6 d7 p0 p1 p2 p3 p4 p5 p6 p7, args = #[v0, v1, v2, v3, v4, v5, v6, v7] ∧ ds = [d0, d1, d2, d3, d4, d5, d6, d7] ∧ ps = p0 ++ p1 ++ p2 ++ p3 ++ p4 ++ p5 ++ p6 ++ p7 ∧ DataW.Trod enc P w base spare held t0 v0 d0 p0 ∧ DataW.Trod enc P w base spare held t1 v1 d1 p1 ∧ DataW.Trod enc P w base spare held t2 v2 d2 p2 ∧ DataW.Trod enc P w base spare held t3 v3 d3 p3 ∧ DataW.Trod enc P w base spare held t4 v4 d4 p4 ∧ DataW.Trod enc P w base spare held t5 v5 d5 p5 ∧ DataW.Trod enc P w base spare held t6 v6 d6 p6 ∧ DataW.Trod enc P w base spare held t7 v7 d7 p7 := by
  obtain ⟨v0, vs0, d0, ds0, p0, q0, hargs, rfl, rfl, hd0, hr0⟩ := trodAll_cons h
  obtain ⟨v1, vs1, d1, ds1, p1, q1, rfl, rfl, rfl, hd1, hr1⟩ := trodAll_cons hr0
  obtain ⟨v2, vs2, d2, ds2, p2, q2, rfl, rfl, rfl, hd2, hr2⟩ := trodAll_cons hr1
  obtain ⟨v3, vs3, d3, ds3, p3, q3, rfl, rfl, rfl, hd3, hr3⟩ := trodAll_cons hr2
  obtain ⟨v4, vs4, d4, ds4, p4, q4, rfl, rfl, rfl, hd4, hr4⟩ := trodAll_cons hr3
  obtain ⟨v5, vs5, d5, ds5, p5, q5, rfl, rfl, rfl, hd5, hr5⟩ := trodAll_cons hr4
  obtain ⟨v6, vs6, d6, ds6, p6, q6, rfl, rfl, rfl, hd6, hr6⟩ := trodAll_cons hr5
  obtain ⟨v7, vs7, d7, ds7, p7, q7, rfl, rfl, rfl, hd7, hr7⟩ := trodAll_cons hr6
  obtain ⟨rfl, rfl, rfl⟩ := trodAll_nil hr7
  exact ⟨v0, v1, v2, v3, v4, v5, v6, v7, d0, d1, d2, d3, d4, d5, d6, d7, p0, p1, p2, p3, p4, p5, p6, p7, by cases args; simp_all, rfl, by simp, hd0, hd1, hd2, hd3, hd4, hd5, hd6, hd7⟩
theorem trodAll_nine {t0 t1 t2 t3 t4 t5 t6 t7 t8 : TypeId} {args : Array Value} {ds : List (DataW H)} {ps : List MemPlace} (h : DataW.TrodAll enc P w base spare held [t0, t1, t2, t3, t4, t5, t6, t7, t8] args.toList ds ps) :
    ∃ v0 v1 v2 v3 v4 v5 v6 v7 v8 d0 d1 d2 d3 d4 d5 d6 d7 d8 p0 p1 p2 p3 p4 p5 p6 p7 p8, args = #[v0, v1, v2, v3, v4, v5, v6, v7, v8] ∧ ds = [d0, d1, d2, d3, d4, d5, d6, d7, d8] ∧ ps = p0 ++ p1 ++ p2 ++ p3 ++ p4 ++ p5 ++ p6 ++ p7 ++ p8 ∧ DataW.Trod enc P w base spare held t0 v0 d0 p0 ∧ DataW.Trod enc P w base spare held t1 v1 d1 p1 ∧ DataW.Trod enc P w base spare held t2 v2 d2 p2 ∧ DataW.Trod enc P w base spare held t3 v3 d3 p3 ∧ DataW.Trod enc P w base spare held t4 v4 d4 p4 ∧ DataW.Trod enc P w base spare held t5 v5 d5 p5 ∧ DataW.Trod enc P w base spare held t6 v6 d6 p6 ∧ DataW.Trod enc P w base spare held t7 v7 d7 p7 ∧ DataW.Trod enc P w base spare held t8 v8 d8 p8 := by
  obtain ⟨v0, vs0, d0, ds0, p0, q0, hargs, rfl, rfl, hd0, hr0⟩ := trodAll_cons h
  obtain ⟨v1, vs1, d1, ds1, p1, q1, rfl, rfl, rfl, hd1, hr1⟩ := trodAll_cons hr0
  obtain ⟨v2, vs2, d2, ds2, p2, q2, rfl, rfl, rfl, hd2, hr2⟩ := trodAll_cons hr1
  obtain ⟨v3, vs3, d3, ds3, p3, q3, rfl, rfl, rfl, hd3, hr3⟩ := trodAll_cons hr2
  obtain ⟨v4, vs4, d4, ds4, p4, q4, rfl, rfl, rfl, hd4, hr4⟩ := trodAll_cons hr3
  obtain ⟨v5, vs5, d5, ds5, p5, q5, rfl, rfl, rfl, hd5, hr5⟩ := trodAll_cons hr4
  obtain ⟨v6, vs6, d6, ds6, p6, q6, rfl, rfl, rfl, hd6, hr6⟩ := trodAll_cons hr5
  obtain ⟨v7, vs7, d7, ds7, p7, q7, rfl, rfl, rfl, hd7, hr7⟩ := trodAll_cons hr6
  obtain ⟨v8, vs8, d8, ds8, p8, q8, rfl, rfl, rfl, hd8, hr8⟩ := trodAll_cons hr7
  obtain ⟨rfl, rfl, rfl⟩ := trodAll_nil hr8
  exact ⟨v0, v1, v2, v3, v4, v5, v6, v7, v8, d0, d1, d2, d3, d4, d5, d6, d7, d8, p0, p1, p2, p3, p4, p5, p6, p7, p8, by cases args; simp_all, rfl, by simp, hd0, hd1, hd2, hd3, hd4, hd5, hd6, hd7, hd8⟩
theorem trodAll_ten {t0 t1 t2 t3 t4 t5 t6 t7 t8 t9 : TypeId} {args : Array Value} {ds : List (DataW H)} {ps : List MemPlace} (h : DataW.TrodAll enc P w base spare held [t0, t1, t2, t3, t4, t5, t6, t7, t8, t9] args.toList ds ps) :
    ∃ v0 v1 v2 v3 v4 v5 v6 v7 v8 v9 d0 d1 d2 d3 d4 d5 d6 d7 d8 d9 p0 p1 p2 p3 p4 p5 p6 p7 p8 p9, args = #[v0, v1, v2, v3, v4, v5, v6, v7, v8, v9] ∧ ds = [d0, d1, d2, d3, d4, d5, d6, d7, d8, d9] ∧ ps = p0 ++ p1 ++ p2 ++ p3 ++ p4 ++ p5 ++ p6 ++ p7 ++ p8 ++ p9 ∧ DataW.Trod enc P w base spare held t0 v0 d0 p0 ∧ DataW.Trod enc P w base spare held t1 v1 d1 p1 ∧ DataW.Trod enc P w base spare held t2 v2 d2 p2 ∧ DataW.Trod enc P w base spare held t3 v3 d3 p3 ∧ DataW.Trod enc P w base spare held t4 v4 d4 p4 ∧ DataW.Trod enc P w base spare held t5 v5 d5 p5 ∧ DataW.Trod enc P w base spare held t6 v6 d6 p6 ∧ DataW.Trod enc P w base spare held t7 v7 d7 p7 ∧ DataW.Trod enc P w base spare held t8 v8 d8 p8 ∧ DataW.Trod enc P w base spare held t9 v9 d9 p9 := by
  obtain ⟨v0, vs0, d0, ds0, p0, q0, hargs, rfl, rfl, hd0, hr0⟩ := trodAll_cons h
  obtain ⟨v1, vs1, d1, ds1, p1, q1, rfl, rfl, rfl, hd1, hr1⟩ := trodAll_cons hr0
  obtain ⟨v2, vs2, d2, ds2, p2, q2, rfl, rfl, rfl, hd2, hr2⟩ := trodAll_cons hr1
  obtain ⟨v3, vs3, d3, ds3, p3, q3, rfl, rfl, rfl, hd3, hr3⟩ := trodAll_cons hr2
  obtain ⟨v4, vs4, d4, ds4, p4, q4, rfl, rfl, rfl, hd4, hr4⟩ := trodAll_cons hr3
  obtain ⟨v5, vs5, d5, ds5, p5, q5, rfl, rfl, rfl, hd5, hr5⟩ := trodAll_cons hr4
  obtain ⟨v6, vs6, d6, ds6, p6, q6, rfl, rfl, rfl, hd6, hr6⟩ := trodAll_cons hr5
  obtain ⟨v7, vs7, d7, ds7, p7, q7, rfl, rfl, rfl, hd7, hr7⟩ := trodAll_cons hr6
  obtain ⟨v8, vs8, d8, ds8, p8, q8, rfl, rfl, rfl, hd8, hr8⟩ := trodAll_cons hr7
  obtain ⟨v9, vs9, d9, ds9, p9, q9, rfl, rfl, rfl, hd9, hr9⟩ := trodAll_cons hr8
  obtain ⟨rfl, rfl, rfl⟩ := trodAll_nil hr9
  exact ⟨v0, v1, v2, v3, v4, v5, v6, v7, v8, v9, d0, d1, d2, d3, d4, d5, d6, d7, d8, d9, p0, p1, p2, p3, p4, p5, p6, p7, p8, p9, by cases args; simp_all, rfl, by simp, hd0, hd1, hd2, hd3, hd4, hd5, hd6, hd7, hd8, hd9⟩
end
end Go.Proofs.Ytcecjoodlmpgnaa
/- A uint64 and a uint32 as natural numbers. Nothing of any function. -/
namespace Go.Proofs.Ytcecjoodlmpgnaa
open Go.ChangeShapes Go.WideShapes Go.ChangeAt Go.RowKit Go.Joins Go.Deep

theorem u64_nat {n : Int} (h : (Lit.int .u64 n).wf = true) : ∃ m : Nat, n = (m : Int) ∧ m < 18446744073709551616 := by
  simp [Lit.wf] at h
  have h1 : IntKind.u64.min = 0 := by decide
  have h2 : IntKind.u64.max = 18446744073709551615 := by decide
  rw [h1, h2] at h
  exact ⟨n.toNat, by omega, by omega⟩
theorem u32_nat {n : Int} (h : (Lit.int .u32 n).wf = true) : ∃ m : Nat, n = (m : Int) ∧ m < 4294967296 := by
  simp [Lit.wf] at h
  have h1 : IntKind.u32.min = 0 := by decide
  have h2 : IntKind.u32.max = 4294967295 := by decide
  rw [h1, h2] at h
  exact ⟨n.toNat, by omega, by omega⟩
end Go.Proofs.Ytcecjoodlmpgnaa
