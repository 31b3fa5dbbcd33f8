/- Texts of this seat, one behind the other: JBackW, JRows, JWhole. -/
import Derived.Test.YtfmlpomnhkjolaaQ17
import Derived.Test.YtfmlpomnhkjolaaQ18
/- The walk of JournalBack. -/
namespace Go.Proofs.Ytfmlpomnhkjolaa
open Go.RowKit

theorem jgetD_at (L : List (List UInt8)) (i : Nat) (h : i < L.length) : L.getD i [] = L[i] := by simp [List.getD, h]
/-- The text "more". -/
def moreT : List UInt8 := [109, 111, 114, 101]

set_option maxRecDepth 100000 in
set_option maxHeartbeats 4000000 in
theorem jlonger_any (k f T : List UInt8) (L : List (List UInt8)) (n : Nat) (w : World) (hn : L.length = n) (h8 : n ≤ 8) (hT : writeL k (wordL k f) (L ++ [moreT]) = T) (hk : k.length ≤ 80) (hf : f.length ≤ 80) (hs : ∀ j, j < n → (L.getD j []).length ≤ 80) :
    Calls Try.prog 24 #[.string ⟨k.toArray⟩, .string ⟨f.toArray⟩, .string ⟨T.toArray⟩, .int .i64 ((n + 1 : Nat) : Int)] w fun e w' => e = .returned (.bool true) ∧ Below w.heap.size w w' := by
  have hL1 : (L ++ [moreT]).length = n + 1 := by simp [hn]
  have hs1 : ∀ j, j < (L ++ [moreT]).length → ((L ++ [moreT]).getD j []).length ≤ 80 := fun j hj => by
    by_cases e : j < n
    · have := hs j e
      simpa [List.getD, List.getElem?_append_left (by omega : j < L.length)] using this
    · obtain rfl : j = n := by omega
      simp [List.getD, ← hn, moreT]
  have hlast : (L ++ [moreT]).getD n [] = moreT := by simp [List.getD, ← hn]
  have hlen := writeL_len k (wordL k f) 80 (L ++ [moreT]) (fun s hs' => by
    obtain ⟨i, hi, rfl⟩ := List.getElem_of_mem hs'
    rw [← jgetD_at _ i hi]
    exact hs1 i hi)
  rw [hL1] at hlen
  have hlen2 : T.length ≤ 810 := by
    rw [← hT]
    have h2 : (n + 1) * (80 + 10) ≤ 9 * 90 := Nat.mul_le_mul_right _ (by omega)
    omega
  have S1 := Lib.hid (fun W => scan_back k f (L ++ [moreT]) W (by omega) (by omega) (fun j hj => by have := hs1 j hj; omega) (by rw [hT]; omega))
  rw [hT, hL1] at S1
  have HL1 := Lib.hid hL1
  have HLA := Lib.hid hlast
  have hz := size_mk T
  generalize lastL k (wordL k f) (L ++ [moreT]) = q at *
  generalize L ++ [moreT] = M at *
  obtain ⟨N, hN⟩ : ∃ N, T.length = N := ⟨_, rfl⟩
  rw [hN] at S1 hz
  obtain ⟨p, hp⟩ : ∃ p, n + 1 = p := ⟨_, rfl⟩
  rw [hp] at S1 HL1 ⊢
  have i1 : (p : Int) - 1 = (n : Int) := by omega
  have i2 : (0 : Int) ≤ (n : Int) := by omega
  have i3 : (n : Int) < (p : Int) := by omega
  have i4 : IntKind.i64.wrap (n : Int) = (n : Int) := by rw [IntKind.wrap_i64]; omega
  have i5 : (n : Int) ≤ 8 := by omega
  have HI : Hid (n < p) := Lib.hid (by omega)
  clear hs1 hs hlast hlen hlen2 hT hL1 hN hp hn h8 hk hf
  go_enter Try.func24, Try.ntmps24
  go_wp2_with fail
  refine (S1.out _).mono ?_
  rintro e w1 ⟨A, c, rfl, hsr, hb1⟩
  obtain ⟨g, off, rfl, c0⟩ := hsr n (by rw [HL1.out]; exact HI.out)
  rw [HLA.out] at c0
  unfold moreT at c0
  clear hsr
  go_wp2
  go_ret
  exact ⟨rfl, hb1⟩

set_option maxRecDepth 100000 in
set_option maxHeartbeats 4000000 in
theorem backs_no (k0 f0 : List UInt8) (A0 : Option Addr) (c0 : Nat) (L0 : List (List UInt8)) (K : Int) (w : World) (hk0 : (k0.length : Int) ≤ 9223372036854775807) (hf0 : (f0.length : Int) ≤ 9223372036854775807) (hA0 : SR w A0 L0) (hL0 : (L0.length : Int) ≤ 9223372036854775807) (hc0 : L0.length ≤ c0) (hS0 : ∀ j, ((L0.getD j []).length : Int) ≤ 9223372036854775807) (b : Nat) (h1 : b < (fewJ L0).length) (h2 : ∀ j, j < b → ((fewJ L0).getD j []).length ≤ 4096) (h3 : 4096 < ((fewJ L0).getD b []).length) :
    Calls Try.prog 6 #[.string ⟨k0.toArray⟩, .string ⟨f0.toArray⟩, .slice A0 L0.length c0, .int .i64 K] w fun e w' => e = .returned (.bool true) ∧ Below w.heap.size w w' := by
  have CK := Lib.hid (fun W => jcut_any k0 W hk0)
  have CF := Lib.hid (fun W => jcut_any f0 W hf0)
  have hk : (k0.take 80).length ≤ 80 := by rw [List.length_take]; omega
  have hf : (f0.take 80).length ≤ 80 := by rw [List.length_take]; omega
  generalize k0.take 80 = k at *
  generalize f0.take 80 = f at *
  have FW := Lib.hid (fun W (h : SR W A0 L0) => jfew_any L0 A0 c0 W h hL0 hc0 hS0)
  have hn8 := fewJ_len L0
  have hmx := fewJ_max L0 hS0
  generalize fewJ L0 = L at *
  have HA0 := Lib.hid hA0
  obtain ⟨n, hn⟩ : ∃ n, L.length = n := ⟨_, rfl⟩
  obtain ⟨N0, hN0⟩ : ∃ N0, L0.length = N0 := ⟨_, rfl⟩
  rw [hn] at FW hn8 h1
  rw [hN0] at FW ⊢
  have WR : Hid (∀ W A c, SR W A L → Calls Try.prog 9 #[.string ⟨k.toArray⟩, .string ⟨f.toArray⟩, .slice A n c] W fun e w' => e = .returned (.tuple #[.string ⟨#[]⟩, .int .i64 4]) ∧ Below W.heap.size W w') := Lib.hid (fun W A c hA => jwrite_long k f L A c n b W hn hA (by omega) (by omega) (by omega) h2 h1 h3 (hmx b))
  have HN := Lib.hid hn
  clear hn hN0 hmx hk hf hA0 hk0 hf0 hL0 hc0 hS0 h1 h2 h3
  go_enter Try.func6, Try.ntmps6
  go_wp2_with fail
  refine (CK.out _).mono ?_
  rintro e w' ⟨rfl, rfl⟩
  go_wp2_with fail
  refine (CF.out _).mono ?_
  rintro e w' ⟨rfl, rfl⟩
  go_wp2_with fail
  refine (FW.out _ HA0.out).mono ?_
  rintro e w1 ⟨A, c, rfl, hown, hb1⟩
  have HA1 := Lib.hid (own_SR' hown HN.out)
  clear hown FW CK CF
  go_wp2_with fail
  refine (WR.out _ _ _ HA1.out).mono ?_
  rintro e w2 ⟨rfl, hb2⟩
  have hB2 := bt hb1 hb2
  clear hb1 hb2 HA1 WR
  go_wp2_with fail
  refine (jalive_any _).mono ?_
  rintro e w3 ⟨rfl, hb3⟩
  go_wp2
  go_ret
  exact ⟨rfl, bt hB2 hb3⟩

set_option maxRecDepth 100000 in
set_option maxHeartbeats 8000000 in
theorem backs_yes (k0 f0 : List UInt8) (A0 : Option Addr) (c0 : Nat) (L0 : List (List UInt8)) (K : Int) (w : World) (hk0 : (k0.length : Int) ≤ 9223372036854775807) (hf0 : (f0.length : Int) ≤ 9223372036854775807) (hA0 : SR w A0 L0) (hL0 : (L0.length : Int) ≤ 9223372036854775807) (hc0 : L0.length ≤ c0) (hS0 : ∀ j, ((L0.getD j []).length : Int) ≤ 9223372036854775807) (hs0 : ∀ j, j < (fewJ L0).length → ((fewJ L0).getD j []).length ≤ 4096) :
    Calls Try.prog 6 #[.string ⟨k0.toArray⟩, .string ⟨f0.toArray⟩, .slice A0 L0.length c0, .int .i64 K] w fun e w' => e = .returned (.bool true) ∧ Below w.heap.size w w' := by
  have CK := Lib.hid (fun W => jcut_any k0 W hk0)
  have CF := Lib.hid (fun W => jcut_any f0 W hf0)
  have hk : (k0.take 80).length ≤ 80 := by rw [List.length_take]; omega
  have hf : (f0.take 80).length ≤ 80 := by rw [List.length_take]; omega
  generalize k0.take 80 = k at *
  generalize f0.take 80 = f at *
  have FW := Lib.hid (fun W (h : SR W A0 L0) => jfew_any L0 A0 c0 W h hL0 hc0 hS0)
  have hn8 := fewJ_len L0
  have hs : ∀ j, j < (fewJ L0).length → ((fewJ L0).getD j []).length ≤ 80 := fun j hj => fewJ_short L0 j (hs0 j hj)
  generalize fewJ L0 = L at *
  have HA0 := Lib.hid hA0
  obtain ⟨n, hn⟩ : ∃ n, L.length = n := ⟨_, rfl⟩
  obtain ⟨N0, hN0⟩ : ∃ N0, L0.length = N0 := ⟨_, rfl⟩
  rw [hn] at FW hn8 hs
  rw [hN0] at FW ⊢
  have hmem : ∀ s ∈ L, s.length ≤ 80 := fun s hs' => by
    obtain ⟨i, hi, rfl⟩ := List.getElem_of_mem hs'
    rw [← jgetD_at _ i hi]
    exact hs i (by omega)
  have hSl : (writeL k (wordL k f) L).length ≤ 720 := by
    have h := writeL_len k (wordL k f) 80 L hmem
    rw [hn] at h
    have h2 : n * (80 + 10) ≤ 8 * 90 := Nat.mul_le_mul_right _ hn8
    omega
  have WR : Hid (∀ W A c, SR W A L → Calls Try.prog 9 #[.string ⟨k.toArray⟩, .string ⟨f.toArray⟩, .slice A n c] W fun e w' => e = .returned (.tuple #[.string ⟨(writeL k (wordL k f) L).toArray⟩, .int .i64 0]) ∧ Below W.heap.size W w') := Lib.hid (fun W A c hA => jwrite_yes k f L A c n W hn hA (by omega) (by omega) (by omega) (fun j hj => by have := hs j hj; omega))
  have S1 := Lib.hid (fun W => scan_back k f L W (by omega) (by omega) (fun j hj => by have := hs j (by omega); omega) (by omega))
  rw [hn] at S1
  have M1 : Hid (∀ W A B c d, SR W A L → SR W B L → Calls Try.prog 20 #[.slice A n c, .slice B n d] W fun e w' => e = .returned (.bool true) ∧ Below W.heap.size W w') := Lib.hid (fun W A B c d h1 h2 => by
    have h := jsame_any A B c d n n L L W h1 h2 hn hn (by omega) (by omega)
    rwa [show decide (L = L) = true by simp] at h)
  have hQ := lastL_lt k (wordL k f) (wordL_lt k f) L
  have R1 : Hid (∀ W, Calls Try.prog 13 #[.string ⟨k.toArray⟩, .int .u64 (lastL k (wordL k f) L : Int), .string ⟨#[109, 111, 114, 101]⟩] W fun e w' => e = .returned (.tuple #[.string ⟨(recL k (lastL k (wordL k f) L) moreT).toArray⟩, .int .u64 (nextL k (lastL k (wordL k f) L) moreT : Int), .int .i64 0]) ∧ Below W.heap.size W w') := Lib.hid (fun W => record_yes k moreT _ W (by omega) (by simp [moreT]) hQ)
  have hrl := recL_len k (lastL k (wordL k f) L) moreT
  have had : ∀ W : World, (Op.stringOp .add ⟨(writeL k (wordL k f) L).toArray⟩ ⟨(recL k (lastL k (wordL k f) L) moreT).toArray⟩).run Try.prog W = .ok (.string ⟨(writeL k (wordL k f) L ++ recL k (lastL k (wordL k f) L) moreT).toArray⟩) W := fun W => run_string_add_lists (P := Try.prog) W _ _ (by omega) (by rw [hrl]; simp [moreT])
  have LG := Lib.hid (fun W => jlonger_any k f (writeL k (wordL k f) L ++ recL k (lastL k (wordL k f) L) moreT) L n W hn hn8 (writeL_more _ _ _ _) hk hf hs)
  have hSC : ∀ (m κ : Nat), m ≤ n → (writeL k (wordL k f) (L.take m)).length ≤ κ → (m < n → κ < (writeL k (wordL k f) (L.take m)).length + (L.getD m []).length + 10) → ∀ W, Calls Try.prog 18 #[.string ⟨k.toArray⟩, .string ⟨f.toArray⟩, .string ⟨((writeL k (wordL k f) L).take κ).toArray⟩] W fun e w' => ∃ A c, e = .returned (.tuple #[.slice A m c, .int .i64 ((writeL k (wordL k f) (L.take m)).length : Int), .int .u64 (lastL k (wordL k f) (L.take m) : Int)]) ∧ SR w' A (L.take m) ∧ Below W.heap.size W w' := fun m κ hm h1 h2 W => by
    obtain ⟨R, e, hR⟩ := cut_journal k (wordL k f) L κ m (fun s hs' => by have := hmem s hs'; omega) (by omega) h1 (fun h => h2 (by omega))
    have hlt : (L.take m).length = m := by rw [List.length_take]; omega
    have h := scan_any k f (L.take m) R W (by omega) (by omega) (fun j hj => by
      rw [hlt] at hj
      rw [getD_take _ _ _ _ hj]
      have := hs j (by omega)
      omega) hR (by rw [← e, List.length_take]; omega)
    rw [← e, hlt] at h
    exact h
  have hSM : ∀ m, m ≤ n → ∀ W A B c d, SR W A (L.take m) → SR W B (L.take m) → Calls Try.prog 20 #[.slice A m c, .slice B m d] W fun e w' => e = .returned (.bool true) ∧ Below W.heap.size W w' := fun m hm W A B c d h1 h2 => by
    have hlt : (L.take m).length = m := by rw [List.length_take]; omega
    have h := jsame_any A B c d m m (L.take m) (L.take m) W h1 h2 hlt hlt (by omega) (by omega)
    rwa [show decide (L.take m = L.take m) = true by simp] at h
  have hPX : ∀ m W, Calls Try.prog 25 #[.string ⟨(writeL k (wordL k f) L).toArray⟩, .string ⟨(writeL k (wordL k f) (L.take m)).toArray⟩] W fun e w' => e = .returned (.bool true) ∧ W = w' := fun m W => by
    have h := prefix_any (writeL k (wordL k f) L) (writeL k (wordL k f) (L.take m)) W
    rwa [show decide (writeL k (wordL k f) (L.take m) <+: writeL k (wordL k f) L) = true by rw [writeL_split k (wordL k f) L m]; simp] at h
  have hET : ∀ m, (⟨(writeL k (wordL k f) L).toArray⟩ : ByteArray).extract 0 (writeL k (wordL k f) (L.take m)).length = ⟨(writeL k (wordL k f) (L.take m)).toArray⟩ ∧ (writeL k (wordL k f) (L.take m)).length ≤ (writeL k (wordL k f) L).length := fun m => by
    rw [extract_take]
    have e := writeL_split k (wordL k f) L m
    refine ⟨?_, by rw [e, List.length_append]; omega⟩
    congr 2
    rw [e, List.take_left]
  have hWT : ∀ j, j < n → (writeL k (wordL k f) (L.take (j + 1))).length = (writeL k (wordL k f) (L.take j)).length + (L.getD j []).length + 10 := fun j hj => by
    rw [writeL_take k (wordL k f) L j (by omega), List.length_append, recL_len]
    omega
  have hz := size_mk (writeL k (wordL k f) L)
  have HSC := Lib.hid hSC
  have HSM := Lib.hid hSM
  have HPX := Lib.hid hPX
  have HET := Lib.hid hET
  have HWT := Lib.hid hWT
  have HS := Lib.hid hs
  have HE0 : Hid ((writeL k (wordL k f) (L.take 0)).length = 0) := Lib.hid rfl
  clear hSC hSM hPX hET hWT hmem hs hs0 hrl
  generalize nextL k (lastL k (wordL k f) L) moreT = q2 at *
  generalize recL k (lastL k (wordL k f) L) moreT = rec at *
  generalize lastL k (wordL k f) L = q at *
  generalize hwr : writeL k (wordL k f) = ww at *
  obtain ⟨T, hT⟩ : ∃ T, ww L ++ rec = T := ⟨_, rfl⟩
  rw [hT] at LG had
  generalize hS : ww L = S at *
  obtain ⟨N, hN⟩ : ∃ N, S.length = N := ⟨_, rfl⟩
  rw [hN] at hz hSl S1
  have HNS := Lib.hid hN
  obtain ⟨M, hM⟩ : ∃ M, N + 1 = M := ⟨_, rfl⟩
  obtain ⟨p, hp⟩ : ∃ p, n + 1 = p := ⟨_, rfl⟩
  rw [hp] at LG
  have t0 : K.tmod (M : Int) < (M : Int) := Int.tmod_lt_of_pos K (by omega)
  have t1 : -(M : Int) < K.tmod (M : Int) := by
    have := Int.lt_tmod_of_pos K (show (0 : Int) < (M : Int) by omega)
    omega
  obtain ⟨r, hr⟩ : ∃ r, K.tmod (M : Int) = r := ⟨_, rfl⟩
  rw [hr] at t0 t1
  obtain ⟨κ, hκ⟩ : ∃ κ : Nat, (r + (N : Int) + 1).tmod (M : Int) = (κ : Int) := ⟨((r + (N : Int) + 1).tmod (M : Int)).toNat, by rw [Int.toNat_of_nonneg (Int.tmod_nonneg _ (by omega))]⟩
  have hκN : κ ≤ N := by
    have := Int.tmod_lt_of_pos (r + (N : Int) + 1) (show (0 : Int) < (M : Int) by omega)
    omega
  have u1 : (N : Int) + 1 = (M : Int) := by omega
  have u2 : IntKind.i64.wrap (M : Int) = (M : Int) := by rw [IntKind.wrap_i64]; omega
  have u3 : ¬ (M : Int) = 0 := by omega
  have u4 : IntKind.i64.wrap r = r := by rw [IntKind.wrap_i64]; omega
  have u5 : IntKind.i64.wrap (r + (N : Int)) = r + (N : Int) := by rw [IntKind.wrap_i64]; omega
  have u6 : IntKind.i64.wrap (r + (N : Int) + 1) = r + (N : Int) + 1 := by rw [IntKind.wrap_i64]; omega
  have u7 : IntKind.i64.wrap (κ : Int) = (κ : Int) := by rw [IntKind.wrap_i64]; omega
  have u8 : (n : Int) + 1 = (p : Int) := by omega
  have u9 : IntKind.i64.wrap (p : Int) = (p : Int) := by rw [IntKind.wrap_i64]; omega
  have u10 : ¬ M = 0 := by omega
  have HN := Lib.hid hn
  clear hn hN0 hk hf hA0 hk0 hf0 hL0 hc0 hS0 hQ hT hp hM hN hwr hS
  go_enter Try.func6, Try.ntmps6
  go_wp2_with fail
  refine (CK.out _).mono ?_
  rintro e w' ⟨rfl, rfl⟩
  go_wp2_with fail
  refine (CF.out _).mono ?_
  rintro e w' ⟨rfl, rfl⟩
  go_wp2_with fail
  refine (FW.out _ HA0.out).mono ?_
  rintro e w1 ⟨A, c, rfl, hown, hb1⟩
  have HA1 := Lib.hid (own_SR' hown HN.out)
  have hnc : n ≤ c := by
    obtain ⟨A', c', e, hh⟩ := own_form hown
    injection e with _ _ e3
    subst e3
    rcases hh with ⟨_, h1, h2⟩ | ⟨_, _, h1, _⟩ <;> omega
  clear hown FW CK CF
  go_wp2_with fail
  refine (WR.out _ _ _ HA1.out).mono ?_
  rintro e w2 ⟨rfl, hb2⟩
  have hB2 := bt hb1 hb2
  have HA2 := Lib.hid (HA1.out.later hb2)
  clear hb1 hb2 HA1 WR
  go_wp2_with fail
  refine (S1.out _).mono ?_
  rintro e w3 ⟨B, d, rfl, hs3, hb3⟩
  have hB3 := bt hB2 hb3
  have HA3 := Lib.hid (HA2.out.later hb3)
  have HS3 := Lib.hid hs3
  clear hB2 hb3 hs3 HA2 S1
  go_wp2_with fail
  refine (M1.out _ _ _ _ _ HS3.out HA3.out).mono ?_
  rintro e w4 ⟨rfl, hb4⟩
  have hB4 := bt hB3 hb4
  have HA4 := Lib.hid (HA3.out.later hb4)
  clear hB3 hb4 HS3 HA3 M1
  go_wp2_with fail
  refine (jalive_any _).mono ?_
  rintro e w5 ⟨rfl, hb5⟩
  have hB5 := bt hB4 hb5
  have HA5 := Lib.hid (HA4.out.later hb5)
  clear hB4 hb5 HA4
  go_wp2_with fail
  refine (R1.out _).mono ?_
  rintro e w6 ⟨rfl, hb6⟩
  have hB6 := bt hB5 hb6
  have HA6 := Lib.hid (HA5.out.later hb6)
  clear hB5 hb6 HA5 R1
  go_wp2_with fail
  refine (LG.out _).mono ?_
  rintro e w7 ⟨rfl, hb7⟩
  have hB7 := bt hB6 hb7
  have HA7 := Lib.hid (HA6.out.later hb7)
  clear hB6 hb7 HA6 LG
  go_wp2_with fail
  clear u1 u2 u3 u4 u5 u6 u7 u8 u9 u10 t0 t1 hr hκ had
  go_loopw [17, 18, 102] (fun mv ev iv wr => ∃ j : Nat, j ≤ n ∧ iv = .int .i64 j ∧ mv = .int .i64 j ∧ ev = .int .i64 ((ww (L.take j)).length : Int) ∧ (ww (L.take j)).length ≤ κ ∧ SR wr A L ∧ Below w.heap.size w wr) (fun _ _ i _ => n - (intOf i).toNat)
  case atStart => exact ⟨0, Nat.zero_le _, rfl, rfl, by rw [HE0.out]; rfl, by rw [HE0.out]; exact Nat.zero_le _, HA7.out, hB7⟩
  case round =>
    clear HA7 hB7 HE0
    obtain ⟨j, hj, rfl, rfl, rfl, he, hsr, hb⟩ := hrel
    have HSR := Lib.hid hsr
    clear hsr
    by_cases hlt : j < n
    · obtain ⟨g, off, rfl, c0⟩ := HSR.out j (by rw [HN.out]; exact hlt)
      have hxs := HS.out j hlt
      have hw1 := HWT.out j hlt
      have hbr : (L.getD j []).length = (L.getD j []).length := rfl
      generalize hxx : L.getD j [] = x at *
      have hzx := size_mk x
      obtain ⟨xl, hxl⟩ : ∃ xl, x.length = xl := ⟨_, rfl⟩
      rw [hxl] at hzx hxs hw1
      have HXL : Hid ((L.getD j []).length = xl) := Lib.hid (by rw [hxx, hxl])
      clear hxx hxl hbr
      have i0 : (0 : Int) ≤ (j : Int) := by omega
      have i1 : (j : Int) < (n : Int) := by omega
      by_cases hle : (ww (L.take j)).length + xl + 10 ≤ κ
      · obtain ⟨e1, he1⟩ : ∃ e1, (ww (L.take j)).length = e1 := ⟨_, rfl⟩
        rw [he1] at he hw1 hle ⊢
        obtain ⟨a1, ha1⟩ : ∃ a1, e1 + xl = a1 := ⟨_, rfl⟩
        obtain ⟨a2, ha2⟩ : ∃ a2, a1 + 10 = a2 := ⟨_, rfl⟩
        have v1 : (e1 : Int) + (xl : Int) = (a1 : Int) := by omega
        have v2 : (a1 : Int) + 10 = (a2 : Int) := by omega
        have v3 : IntKind.i64.wrap (a1 : Int) = (a1 : Int) := by rw [IntKind.wrap_i64]; omega
        have v4 : IntKind.i64.wrap (a2 : Int) = (a2 : Int) := by rw [IntKind.wrap_i64]; omega
        have v5 : decide ((κ : Int) < (a2 : Int)) = false := by simp; omega
        have v6 : decide (κ < a2) = false := by simp; omega
        have HE2 : Hid ((ww (L.take (j + 1))).length = a2) := Lib.hid (by omega)
        have hle2 : a2 ≤ κ := by omega
        clear he hw1 hle he1 ha1 ha2
        go_wp2
        exact ⟨⟨j + 1, by omega, by go_num, by go_num, by rw [HE2.out], by rw [HE2.out]; exact hle2, HSR.out, hb⟩, by simp [intOf]; omega⟩
      · have hbk : j < n → κ < (ww (L.take j)).length + (L.getD j []).length + 10 := fun _ => by rw [HXL.out]; omega
        obtain ⟨a1, ha1⟩ : ∃ a1, (ww (L.take j)).length + xl = a1 := ⟨_, rfl⟩
        obtain ⟨a2, ha2⟩ : ∃ a2, a1 + 10 = a2 := ⟨_, rfl⟩
        have v1 : ((ww (L.take j)).length : Int) + (xl : Int) = (a1 : Int) := by omega
        have hp2 : a1 ≤ 100000 := by omega
        have v2 : (a1 : Int) + 10 = (a2 : Int) := by omega
        have v3 : IntKind.i64.wrap (a1 : Int) = (a1 : Int) := by rw [IntKind.wrap_i64]; omega
        have v4 : IntKind.i64.wrap (a2 : Int) = (a2 : Int) := by rw [IntKind.wrap_i64]; omega
        have v5 : decide ((κ : Int) < (a2 : Int)) = true := by simp; omega
        have v6 : decide (κ < a2) = true := by simp; omega
        clear ha1 ha2 hw1 hle
        have SC := Lib.hid (HSC.out j κ (by omega) he hbk)
        have SM := Lib.hid (HSM.out j (by omega))
        have PX := Lib.hid (HPX.out j)
        obtain ⟨x1, x2⟩ := HET.out j
        have x3 := extract_take S κ
        generalize S.take κ = Sk at SC x3
        generalize lastL k (wordL k f) (L.take j) = qq at SC
        generalize ww (L.take j) = P at SC PX x1 x2 he hbk v1 ⊢
        generalize P.length = e1 at SC x1 x2 he hbk v1 ⊢
        have hx2 : e1 ≤ N := by have := HNS.out; omega
        have y1 : (κ : Int) ≤ (N : Int) := by omega
        have y2 : (e1 : Int) ≤ (N : Int) := by omega
        have y3 : (j : Int) ≤ (c : Int) := by omega
        have y4 : (0 : Int) ≤ (j : Int) := by omega
        clear x2 he hbk
        go_wp2_with fail
        refine (SC.out _).mono ?_
        rintro e w9 ⟨B, d, rfl, hs9, hb9⟩
        have hB9 := bt hb hb9
        have HS9 := Lib.hid ((HSR.out.later hb9).take j)
        have HS8 := Lib.hid hs9
        clear hb hb9 hs9 HSR SC
        go_wp2_with fail
        refine (SM.out _ _ _ _ _ HS8.out HS9.out).mono ?_
        rintro e w10 ⟨rfl, hb10⟩
        have hB10 := bt hB9 hb10
        clear hB9 hb10 HS8 HS9 SM
        go_wp2_with fail
        refine (PX.out _).mono ?_
        rintro e w11 ⟨rfl, rfl⟩
        go_wp2
        go_ret
        exact ⟨rfl, hB10⟩
    · obtain rfl : j = n := by omega
      have hbk : j < j → κ < (ww (L.take j)).length + (L.getD j []).length + 10 := fun h => absurd h (Nat.lt_irrefl _)
      have SC := Lib.hid (HSC.out j κ (by omega) he hbk)
      have SM := Lib.hid (HSM.out j (by omega))
      have PX := Lib.hid (HPX.out j)
      obtain ⟨x1, x2⟩ := HET.out j
      have x3 := extract_take S κ
      generalize S.take κ = Sk at SC x3
      generalize lastL k (wordL k f) (L.take j) = qq at SC
      generalize ww (L.take j) = P at SC PX x1 x2 he hbk ⊢
      generalize P.length = e1 at SC x1 x2 he hbk ⊢
      have hx2 : e1 ≤ N := by have := HNS.out; omega
      have y1 : (κ : Int) ≤ (N : Int) := by omega
      have y2 : (e1 : Int) ≤ (N : Int) := by omega
      have y3 : (j : Int) ≤ (c : Int) := by omega
      have y4 : (0 : Int) ≤ (j : Int) := by omega
      clear x2 he hbk
      go_wp2_with fail
      refine (SC.out _).mono ?_
      rintro e w9 ⟨B, d, rfl, hs9, hb9⟩
      have hB9 := bt hb hb9
      have HS9 := Lib.hid ((HSR.out.later hb9).take j)
      have HS8 := Lib.hid hs9
      clear hb hb9 hs9 HSR SC
      go_wp2_with fail
      refine (SM.out _ _ _ _ _ HS8.out HS9.out).mono ?_
      rintro e w10 ⟨rfl, hb10⟩
      have hB10 := bt hB9 hb10
      clear hB9 hb10 HS8 HS9 SM
      go_wp2_with fail
      refine (PX.out _).mono ?_
      rintro e w11 ⟨rfl, rfl⟩
      go_wp2
      go_ret
      exact ⟨rfl, hB10⟩

theorem back_any (k0 f0 : List UInt8) (A0 : Option Addr) (c0 : Nat) (L0 : List (List UInt8)) (K : Int) (w : World) (hk0 : (k0.length : Int) ≤ 9223372036854775807) (hf0 : (f0.length : Int) ≤ 9223372036854775807) (hA0 : SR w A0 L0) (hL0 : (L0.length : Int) ≤ 9223372036854775807) (hc0 : L0.length ≤ c0) (hS0 : ∀ j, ((L0.getD j []).length : Int) ≤ 9223372036854775807) :
    Calls Try.prog 6 #[.string ⟨k0.toArray⟩, .string ⟨f0.toArray⟩, .slice A0 L0.length c0, .int .i64 K] w fun e w' => e = .returned (.bool true) ∧ Below w.heap.size w w' := by
  rcases short_or (fewJ L0) (fewJ L0).length with h | ⟨b, h1, h2, h3⟩
  · exact backs_yes k0 f0 A0 c0 L0 K w hk0 hf0 hA0 hL0 hc0 hS0 h
  · exact backs_no k0 f0 A0 c0 L0 K w hk0 hf0 hA0 hL0 hc0 hS0 b h1 h2 h3
end Go.Proofs.Ytfmlpomnhkjolaa
/- Rows of rows of texts: what can be read of one, and one that the call made. The groups of texts. Nothing of any function. -/
namespace Go.Proofs.Ytfmlpomnhkjolaa
open Go.RowKit

/-- One text more: it ends the group, if it is empty. -/
def stepG (x : List (List (List UInt8)) × List (List UInt8)) (s : List UInt8) : List (List (List UInt8)) × List (List UInt8) :=
  if s = [] then (x.1 ++ [x.2], []) else (x.1, x.2 ++ [s])
/-- The groups, and what is left. -/
def wholeL (L : List (List UInt8)) : List (List (List UInt8)) × List (List UInt8) := L.foldl stepG ([], [])
theorem wholeL_take (L : List (List UInt8)) (j : Nat) (h : j < L.length) : wholeL (L.take (j + 1)) = stepG (wholeL (L.take j)) (L.getD j []) := by
  rw [take_more L j h]
  unfold wholeL
  rw [List.foldl_append]
  simp [List.getD, h]
theorem wholeL_le (L : List (List UInt8)) : ∀ j, j ≤ L.length → (wholeL (L.take j)).1.length ≤ j ∧ (wholeL (L.take j)).2.length ≤ j := by
  intro j
  induction j with
  | zero => intro _; simp [wholeL]
  | succ j ih =>
    intro h
    obtain ⟨h1, h2⟩ := ih (by omega)
    rw [wholeL_take L j (by omega)]
    unfold stepG
    split
    · simp; omega
    · simp; omega
/-- Groups, with a commit behind each. -/
def joinG (G : List (List (List UInt8))) : List (List UInt8) := G.flatMap fun g => g ++ [[]]
theorem joinG_more (G : List (List (List UInt8))) (g : List (List UInt8)) : joinG (G ++ [g]) = joinG G ++ g ++ [[]] := by simp [joinG]
theorem wholeL_join (L : List (List UInt8)) : joinG (wholeL L).1 ++ (wholeL L).2 = L := by
  suffices h : ∀ j, j ≤ L.length → joinG (wholeL (L.take j)).1 ++ (wholeL (L.take j)).2 = L.take j by
    have := h L.length (Nat.le_refl _)
    rwa [List.take_length] at this
  intro j
  induction j with
  | zero => intro _; rfl
  | succ j ih =>
    intro h
    have h1 := ih (by omega)
    rw [wholeL_take L j (by omega), take_more L j (by omega)]
    have e : L.getD j [] = L[j] := by simp [List.getD, show j < L.length by omega]
    rw [e]
    unfold stepG
    split
    · rename_i hh
      rw [hh, joinG_more, List.append_nil, h1]
    · rw [← List.append_assoc, h1]

/-- A row of rows of texts that can be read. -/
def GR (w : World) (A : Option Addr) (G : List (List (List UInt8))) : Prop :=
  ∀ i, i < G.length → ∃ g off B d, A = some ⟨g, off, none⟩ ∧ w.cell? ⟨g, off + i, none⟩ = some (.slice B (G.getD i []).length d) ∧ SR w B (G.getD i [])
theorem GR.later {w w' : World} {A : Option Addr} {G : List (List (List UInt8))} (h : GR w A G) (hb : Below w.heap.size w w') : GR w' A G := fun i hi => by
  obtain ⟨g, off, B, d, e, h0, h1⟩ := h i hi
  exact ⟨g, off, B, d, e, cell_later hb h0, h1.later hb⟩
/-- Rows of texts, each of its own, below b. -/
def GO (W : World) (base b : Nat) (Vs : List Value) (G : List (List (List UInt8))) : Prop :=
  Vs.length = G.length ∧ ∀ i, i < G.length → ∃ v, Vs[i]? = some v ∧ W.ownsRow base 9 1 v (G.getD i []).length ((G.getD i []).map sv) ∧ ∀ g, v.ownBlock = some g → g < b
theorem own_heap {W : World} {base : Nat} {e : TypeId} {size n g : Nat} {v : Value} {xs : List Value} (h : W.ownsRow base e size v n xs) (hg : v.ownBlock = some g) : ∃ cur, W.heap[g]? = some (.cells cur e (0, 0)) := by
  rcases h.2 with ⟨rfl, _⟩ | ⟨g', cap, cur, rfl, _, hh, _⟩
  · cases hg
  · cases hg
    exact ⟨cur, hh⟩
theorem own_own_ne {W : World} {b1 b2 : Nat} {e1 e2 : TypeId} {s1 s2 n1 n2 g : Nat} {v1 v2 : Value} {x1 x2 : List Value} (h1 : W.ownsRow b1 e1 s1 v1 n1 x1) (h2 : W.ownsRow b2 e2 s2 v2 n2 x2) (hne : e1 ≠ e2) (hg : v1.ownBlock = some g) : v2.ownBlock ≠ some g := fun e => by
  obtain ⟨c1, k1⟩ := own_heap h1 hg
  obtain ⟨c2, k2⟩ := own_heap h2 e
  rw [k1] at k2
  injection k2 with k2
  injection k2 with _ k3
  exact hne k3
theorem GO.kept {W W' : World} {base b : Nat} {Vs : List Value} {G : List (List (List UInt8))} (h : GO W base b Vs G) (hk : ∀ g, g < b → (∃ cur, W.heap[g]? = some (.cells cur 9 (0, 0))) → W'.heap[g]? = W.heap[g]?) : GO W' base b Vs G :=
  ⟨h.1, fun i hi => by
    obtain ⟨v, h1, h2, h3⟩ := h.2 i hi
    exact ⟨v, h1, jown_kept h2 (fun g hg => hk g (h3 g hg) (own_heap h2 hg)), h3⟩⟩
theorem GO.below {W W' : World} {base b : Nat} {Vs : List Value} {G : List (List (List UInt8))} (h : GO W base b Vs G) (hb : Below W.heap.size W W') : GO W' base b Vs G :=
  h.kept fun g _ hc => by
    obtain ⟨cur, hc⟩ := hc
    exact hb.block g (Array.getElem?_eq_some_iff.1 hc).1
theorem GO.nil (W : World) (base b : Nat) : GO W base b [] [] := ⟨rfl, fun i hi => absurd hi (by simp)⟩
theorem GO.more {W : World} {base b b' : Nat} {Vs : List Value} {G : List (List (List UInt8))} {v : Value} {O : List (List UInt8)} (h : GO W base b Vs G) (hv : W.ownsRow base 9 1 v O.length (O.map sv)) (hb : b ≤ b') (hlt : ∀ g, v.ownBlock = some g → g < b') : GO W base b' (Vs ++ [v]) (G ++ [O]) := by
  refine ⟨by simp [h.1], fun i hi => ?_⟩
  by_cases e : i < G.length
  · obtain ⟨u, h1, h2, h3⟩ := h.2 i e
    refine ⟨u, ?_, ?_, fun g hg => Nat.lt_of_lt_of_le (h3 g hg) hb⟩
    · rw [List.getElem?_append_left (by rw [h.1]; exact e)]; exact h1
    · have : (G ++ [O]).getD i [] = G.getD i [] := by simp [List.getD, List.getElem?_append_left e]
      rw [this]
      exact h2
  · obtain rfl : i = G.length := by simp at hi; omega
    refine ⟨v, ?_, ?_, hlt⟩
    · rw [List.getElem?_append_right (by rw [h.1]; exact Nat.le_refl _), h.1, Nat.sub_self]; rfl
    · have : (G ++ [O]).getD G.length [] = O := by simp [List.getD]
      rw [this]
      exact hv
theorem jown_base {W : World} {b b' : Nat} {e : TypeId} {size n : Nat} {v : Value} {xs : List Value} (h : W.ownsRow b e size v n xs) (hb : b' ≤ b) : W.ownsRow b' e size v n xs := by
  refine ⟨h.1, ?_⟩
  rcases h.2 with h2 | ⟨g, cap, cur, hv, hg, r⟩
  · exact .inl h2
  · exact .inr ⟨g, cap, cur, hv, Nat.le_trans hb hg, r⟩
/-- Behind an append of rows. -/
theorem GO.rows {W W3 : World} {base b base2 n2 : Nat} {o : Obj} {Vs : List Value} {G : List (List (List UInt8))} {v : Value} {xs : List Value} (h : GO W base b Vs G) (hr : (W.alloc o).ownsRow base2 23 1 v n2 xs) (hg : (W.alloc o).grownBy W3 v.ownBlock) : GO W3 base b Vs G :=
  (h.below ((Below.refl W.heap.size W).alloc (Nat.le_refl _) o)).kept fun g _ hc => by
    obtain ⟨cur, hc⟩ := hc
    refine hg.block g (Array.getElem?_eq_some_iff.1 hc).1 (fun e => ?_)
    obtain ⟨c2, k2⟩ := own_heap hr e.symm
    rw [hc] at k2
    injection k2 with k2
    injection k2 with _ k3
    exact absurd k3 (by decide)
/-- Behind an append of a text to a row from b on. -/
theorem GO.texts {W W3 : World} {base b n2 : Nat} {o : Obj} {Vs : List Value} {G : List (List (List UInt8))} {v : Value} {xs : List Value} (h : GO W base b Vs G) (hr : (W.alloc o).ownsRow b 9 1 v n2 xs) (hg : (W.alloc o).grownBy W3 v.ownBlock) : GO W3 base b Vs G :=
  (h.below ((Below.refl W.heap.size W).alloc (Nat.le_refl _) o)).kept fun g hlt hc => by
    obtain ⟨cur, hc⟩ := hc
    refine hg.block g (Array.getElem?_eq_some_iff.1 hc).1 (fun e => ?_)
    have := (hr.lt g e.symm).1
    omega
/-- A row of texts, behind an append of rows. -/
theorem own_rows {W W3 : World} {b base2 n n2 : Nat} {o : Obj} {u v : Value} {xs ys : List Value} (h : W.ownsRow b 9 1 u n ys) (hr : (W.alloc o).ownsRow base2 23 1 v n2 xs) (hg : (W.alloc o).grownBy W3 v.ownBlock) : W3.ownsRow b 9 1 u n ys := by
  have h1 := own_later h ((Below.refl W.heap.size W).alloc (Nat.le_refl _) o)
  exact jown_kept h1 (fun g hgg => hg.block g (h1.lt g hgg).2 (fun e => own_own_ne h1 hr (by decide) hgg e.symm))
/-- A row of rows, behind an append of a text to a row of texts. -/
theorem own_texts {W W3 : World} {b base2 n n2 : Nat} {o : Obj} {u v : Value} {xs ys : List Value} (h : W.ownsRow b 23 1 u n ys) (hr : (W.alloc o).ownsRow base2 9 1 v n2 xs) (hg : (W.alloc o).grownBy W3 v.ownBlock) : W3.ownsRow b 23 1 u n ys := by
  have h1 := own_later h ((Below.refl W.heap.size W).alloc (Nat.le_refl _) o)
  exact jown_kept h1 (fun g hgg => hg.block g (h1.lt g hgg).2 (fun e => own_own_ne h1 hr (by decide) hgg e.symm))
/-- What can be read of a row of rows that the call made. -/
theorem GO.read {W : World} {base b base2 c : Nat} {A : Option Addr} {Vs : List Value} {G : List (List (List UInt8))} (h : GO W base b Vs G) (hr : W.ownsRow base2 23 1 (.slice A G.length c) G.length Vs) : GR W A G := fun i hi => by
  obtain ⟨v, h1, h2, _⟩ := h.2 i hi
  obtain ⟨A', c', e, hh⟩ := own_form hr
  injection e with e1 _ e3
  subst e1
  subst e3
  obtain ⟨B, d, rfl, _⟩ := own_form h2
  rcases hh with ⟨_, h0, _⟩ | ⟨g, rfl, _⟩
  · omega
  · exact ⟨g, 0, B, d, rfl, by rw [Nat.zero_add, hr.cellAt i (by omega)]; exact h1, own_SR' h2 rfl⟩
theorem infoSS : (Try.prog.info? 23).map (fun i => (i.zero, i.size, i.bytes)) = some (some (.slice none 0 0), 1, 24) := by kernel_rfl
end Go.Proofs.Ytfmlpomnhkjolaa
/- The contract of Whole. -/
namespace Go.Proofs.Ytfmlpomnhkjolaa
open Go.RowKit

set_option maxRecDepth 100000 in
set_option maxHeartbeats 8000000 in
theorem whole_any (L : List (List UInt8)) (A : Option Addr) (c n : Nat) (w : World) (hn : L.length = n) (hA : SR w A L) (hN : n ≤ 4096) :
    Calls Try.prog 21 #[.slice A n c] w fun e w' => ∃ A' c' B' d', e = .returned (.tuple #[.slice A' (wholeL L).1.length c', .slice B' (wholeL L).2.length d']) ∧ GR w' A' (wholeL L).1 ∧ w'.ownsRow w.heap.size 9 1 (.slice B' (wholeL L).2.length d') (wholeL L).2.length ((wholeL L).2.map sv) ∧ Below w.heap.size w w' := by
  obtain ⟨ti, hi0, hz0, hz1, hz2⟩ := info_parts infoS
  obtain ⟨si, hj0, hy0, hy1, hy2⟩ := info_parts infoSS
  have HA := Lib.hid hA
  have HN := Lib.hid hn
  have HT := Lib.hid (fun j (h : j < n) => wholeL_take L j (by omega))
  have HLE := Lib.hid (fun j (h : j ≤ n) => wholeL_le L j (by omega))
  have HW : Hid (wholeL (L.take n) = wholeL L) := Lib.hid (by rw [← hn, List.take_length])
  have H0 : Hid (wholeL (L.take 0) = ([], [])) := Lib.hid rfl
  clear hA hn
  go_enter Try.func21, Try.ntmps21
  go_wp2_with fail
  go_loopw [4, 5, 10] (fun gv ov iv wr => ∃ (j : Nat) (G : List (List (List UInt8))) (O : List (List UInt8)) (A1 B1 : Option Addr) (c1 d1 b : Nat) (Vs : List Value), j ≤ n ∧ iv = .int .i64 j ∧ gv = .slice A1 G.length c1 ∧ ov = .slice B1 O.length d1 ∧ Hid (wholeL (L.take j) = (G, O)) ∧ wr.ownsRow w.heap.size 23 1 (.slice A1 G.length c1) G.length Vs ∧ GO wr w.heap.size b Vs G ∧ wr.ownsRow b 9 1 (.slice B1 O.length d1) O.length (O.map sv) ∧ w.heap.size ≤ b ∧ b ≤ wr.heap.size ∧ Below w.heap.size w wr) (fun _ _ i _ => n - (intOf i).toNat)
  case atStart => exact ⟨0, [], [], none, none, 0, 0, w.heap.size, [], Nat.zero_le _, rfl, rfl, rfl, H0, World.ownsRow_nil _ _ _ _, GO.nil _ _ _, World.ownsRow_nil _ _ _ _, Nat.le_refl _, Nat.le_refl _, Below.refl _ _⟩
  case round =>
    clear H0
    obtain ⟨j, G, O, A1, B1, c1, d1, b, Vs, hj, rfl, rfl, rfl, HGO, hgr, hgo, hor, hb0, hb1, hb⟩ := hrel
    have hle := HLE.out j hj
    rw [HGO.out] at hle
    have hle1 : G.length ≤ j := hle.1
    have hle2 : O.length ≤ j := hle.2
    clear hle
    have HGR := Lib.hid hgr
    have HGOO := Lib.hid hgo
    have HOR := Lib.hid hor
    by_cases hlt : j < n
    · obtain ⟨g, off, rfl, c0⟩ := (HA.out.later hb) j (by rw [HN.out]; exact hlt)
      have HT1 := Lib.hid (HT.out j hlt)
      rw [HGO.out] at HT1
      have i0 : (0 : Int) ≤ (j : Int) := by omega
      have i1 : (j : Int) < (n : Int) := by omega
      by_cases hs : L.getD j [] = []
      · have HT2 : Hid (wholeL (L.take (j + 1)) = (G ++ [O], [])) := Lib.hid (by rw [HT1.out]; unfold stepG; rw [if_pos hs])
        rw [hs] at c0
        clear hs hgr hgo hor HT1
        have hownA := own_later HGR.out (ba (Below.refl wr.heap.size wr) (.cells #[.slice B1 O.length d1] 23))
        have hnews := World.news_of_block (heap_alloc_new wr (.cells #[.slice B1 O.length d1] 23))
        go_wp2_with (at_builtin; refine wpList_append_own _ rfl _ _ 45 rfl w.heap.size 23 si (.slice none 0 0) 1 24 Try.underlying45 hj0 hy0 hy1 hy2 rfl (by decide) _ _ _ rfl hownA ⟨wr.heap.size, 0, none⟩ 1 1 [.slice B1 O.length d1] rfl rfl hnews (by simp [Value.oneCell']) (by unfold maxLen; omega) (by omega) (by simp; omega) ?_; intro v3 w3 hown3 hgrow3 _; obtain ⟨g3, c3, rfl⟩ := ownsRow_succ hown3)
        have hz1' := hgrow3.size
        rw [World.size_alloc] at hz1'
        have HO3 := own_rows HOR.out hownA hgrow3
        have HG3 := (GO.rows HGOO.out hownA hgrow3).more (b' := w3.heap.size) (jown_base HO3 hb0) (by omega) (fun g hg => (HO3.lt g hg).2)
        have hb3 : Below w.heap.size w w3 := (ba hb _).grown hgrow3 (by have := hb.size; simp; omega) (fun k e => (hownA.lt k e).1)
        exact ⟨⟨j + 1, G ++ [O], [], some ⟨g3, 0, none⟩, none, c3, 0, w3.heap.size, _, by omega, by go_num, by rw [List.length_append]; rfl, rfl, HT2, by rw [List.length_append]; exact hown3, HG3, World.ownsRow_nil _ _ _ _, by omega, Nat.le_refl _, hb3⟩, by simp [intOf]; omega⟩
      · have HT2 : Hid (wholeL (L.take (j + 1)) = (G, O ++ [L.getD j []])) := Lib.hid (by rw [HT1.out]; unfold stepG; rw [if_neg hs])
        clear hgr hgo hor HT1
        generalize L.getD j [] = x at *
        have hs1 : (x == []) = false := by simp only [beq_eq_false_iff_ne]; exact hs
        clear hs
        have hownA := own_later HOR.out (ba (Below.refl wr.heap.size wr) (.cells #[sv x] 9))
        have hnews := World.news_of_block (heap_alloc_new wr (.cells #[sv x] 9))
        go_wp2_with (at_builtin; refine wpList_append_own _ rfl _ _ 23 rfl b 9 ti _ 1 16 Try.underlying23 hi0 hz0 hz1 hz2 rfl (by decide) _ _ _ rfl hownA ⟨wr.heap.size, 0, none⟩ 1 1 [sv x] rfl rfl hnews (by simp [Value.oneCell']) (by unfold maxLen; omega) (by omega) (by simp; omega) ?_; intro v3 w3 hown3 hgrow3 _; obtain ⟨g3, c3, rfl⟩ := ownsRow_succ hown3)
        have hz1' := hgrow3.size
        rw [World.size_alloc] at hz1'
        have HR3 := own_texts HGR.out hownA hgrow3
        have HG3 := GO.texts HGOO.out hownA hgrow3
        have hb3 : Below w.heap.size w w3 := (ba hb _).grown hgrow3 (by have := hb.size; simp; omega) (fun k e => by have := (hownA.lt k e).1; omega)
        exact ⟨⟨j + 1, G, O ++ [x], A1, some ⟨g3, 0, none⟩, c1, c3, b, Vs, by omega, by go_num, rfl, by rw [List.length_append]; rfl, HT2, HR3, HG3, by rw [List.length_append, List.map_append]; exact hown3, hb0, by omega, hb3⟩, by simp [intOf]; omega⟩
    · obtain rfl : j = n := by omega
      have e := HW.out
      rw [HGO.out] at e
      clear hgr hgo hor
      go_wp2
      go_ret2
      rw [← e]
      exact ⟨_, _, _, _, rfl, GO.read HGOO.out HGR.out, jown_base HOR.out hb0, hb⟩
end Go.Proofs.Ytfmlpomnhkjolaa
