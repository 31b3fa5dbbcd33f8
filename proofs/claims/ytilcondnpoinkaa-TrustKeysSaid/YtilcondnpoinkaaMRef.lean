/- The contracts of the reference's with, fitted and Tag, and of joined. -/
import Derived.Test.YtilcondnpoinkaaMMath
import Derived.Test.YtilcondnpoinkaaMJoin
import Derived.Test.YtilcondnpoinkaaHWordsR
import Derived.Deep.CutRange
namespace Go.Proofs.Ytilcondnpoinkaa
open Go.RowKit

theorem xor_byte (a c : UInt8) : bits .xor .u8 (a.toNat : Int) (c.toNat : Int) = ((a ^^^ c).toNat : Int) := by
  have ha := a.toNat_lt
  have hc := c.toNat_lt
  rw [u8_xor_nat _ _ (by omega) (by omega), UInt8.toNat_xor]

theorem at_get (l : List UInt8) (k : Nat) (h : k < l.length) : (⟨l.toArray⟩ : ByteArray)[k]? = some (l.getD k 0) := by
  have hs : k < (⟨l.toArray⟩ : ByteArray).size := by simpa [ByteArray.size] using h
  rw [getElem?_pos (⟨l.toArray⟩ : ByteArray) k hs, byte_at l k h]
theorem withL_take (l : List UInt8) (c : UInt8) (k : Nat) (h : k < l.length) : withL (l.take (k + 1)) c = withL (l.take k) c ++ [l.getD k 0 ^^^ c] := by
  unfold withL
  rw [List.take_succ_eq_append_getElem h, List.map_append]
  simp [List.getD, h]

set_option maxRecDepth 100000 in
set_option maxHeartbeats 1000000 in
theorem rwith_any (l : List UInt8) (c : UInt8) (w : World) (hl : l.length ≤ 1048576) :
    Calls Try.prog 30 #[.string ⟨l.toArray⟩, .int .u8 (c.toNat : Int)] w fun e w' => e = .returned (.string ⟨(withL l c).toArray⟩) ∧ Below w.heap.size w w' := by
  have hz := size_of l
  obtain ⟨n, hn⟩ : ∃ n, l.length = n := ⟨_, rfl⟩
  rw [hn] at hz hl
  have HN := Lib.hid hn
  clear hn
  go_enter Try.func30, Try.ntmps30
  go_wp2
  go_loopw [5, 6] (fun ov iv wr => ∃ k : Nat, k ≤ n ∧ iv = .int .i64 k ∧ ov = .string ⟨(withL (l.take k) c).toArray⟩ ∧ Below w.heap.size w wr) (fun _ i _ => n - (intOf i).toNat)
  case atStart => exact ⟨0, Nat.zero_le _, rfl, rfl, Below.refl _ _⟩
  case round =>
    obtain ⟨k, hk, rfl, rfl, hb⟩ := hrel
    by_cases hlt : k < n
    · have HT := Lib.hid (withL_take l c k (by rw [HN.out]; exact hlt))
      have hix := at_get l k (by rw [HN.out]; exact hlt)
      obtain ⟨x, hx⟩ : ∃ x, l.getD k 0 = x := ⟨_, rfl⟩
      rw [hx] at HT hix
      have hix2 := index_is ⟨l.toArray⟩ k k x rfl hix
      have hxr := xor_byte x c
      obtain ⟨y, hy⟩ : ∃ y, x ^^^ c = y := ⟨_, rfl⟩
      rw [hy] at HT hxr
      have hcv := one_byte y
      have hwl : (withL (l.take k) c).length ≤ 1048576 := by rw [withL_len, List.length_take]; omega
      have hadd : ∀ W : World, (Op.stringOp .add ⟨(withL (l.take k) c).toArray⟩ ⟨[y].toArray⟩).run Try.prog W = .ok (.string ⟨(withL (l.take k) c ++ [y]).toArray⟩) W := fun W => run_string_add_lists (P := Try.prog) W _ _ (by omega) (by simp)
      clear hix hx hy hwl
      have i1 : (0 : Int) ≤ (k : Int) := by omega
      have i2 : (k : Int) < (n : Int) := by omega
      go_wp2
      exact ⟨⟨k + 1, by omega, by go_num, by rw [HT.out], ba hb _⟩, by simp [intOf]; omega⟩
    · obtain rfl : k = n := by omega
      have htk : l.take k = l := List.take_of_length_le (by rw [HN.out]; exact Nat.le_refl _)
      rw [htk]
      clear htk
      go_wp2
      go_ret
      exact ⟨rfl, hb⟩

set_option maxRecDepth 100000 in
set_option maxHeartbeats 1000000 in
theorem rfitted_any (key : List UInt8) (w : World) (hk : key.length ≤ 60000) :
    Calls Try.prog 28 #[.string ⟨key.toArray⟩] w fun e w' => e = .returned (.string ⟨(fitL key).toArray⟩) ∧ Below w.heap.size w w' := by
  have hz := size_of key
  have tail : ∀ (h : List UInt8) (wo : World) (kv : Value), h.length ≤ 64 → True := fun _ _ _ _ => trivial
  clear tail
  have HR := Lib.hid (fun W => rsum_any rwords_holds key W (by omega))
  have HS := Lib.hid (sumL_len key)
  have HF : Hid (fitL key = headL key ++ List.replicate (64 - (headL key).length) 0) := Lib.hid rfl
  have HH : Hid ((key.length ≤ 64 → headL key = key) ∧ (¬ key.length ≤ 64 → headL key = sumL key)) := Lib.hid ⟨fun h => by unfold headL; rw [if_pos h], fun h => by unfold headL; rw [if_neg h]⟩
  have HL := Lib.hid (headL_len key)
  obtain ⟨n, hn⟩ : ∃ n, key.length = n := ⟨_, rfl⟩
  rw [hn] at hz hk HH
  generalize fitL key = F at HF ⊢
  generalize headL key = h at HF HH HL
  generalize sumL key = S at HR HS HH
  obtain ⟨m, hm⟩ : ∃ m, h.length = m := ⟨_, rfl⟩
  rw [hm] at HF HL
  have HM := Lib.hid hm
  clear hm hn
  go_enter Try.func28, Try.ntmps28
  go_upto_if 5 with fail
  go_cut [0] from 3 to 7 (fun s0 wx => s0 = .string ⟨h.toArray⟩ ∧ Below w.heap.size w wx)
  case first =>
    by_cases hle : n ≤ 64
    · have hh := HH.out.1 hle
      have hi : ¬ (64 : Int) < (n : Int) := by omega
      go_wp2_with fail
      go_meet
      exact ⟨by rw [hh], Below.refl _ _⟩
    · have hh := HH.out.2 hle
      have hi : (64 : Int) < (n : Int) := by omega
      go_wp2_with fail
      refine (HR.out _).mono ?_
      rintro e w1 ⟨rfl, hb1⟩
      go_wp2_with fail
      go_meet
      exact ⟨by rw [hh], hb1⟩
  case rest =>
    obtain ⟨rfl, hbc⟩ := hcut
    clear hz
    go_wp2_with fail
    go_loopw [0] (fun ov wr => ∃ k : Nat, k ≤ 64 - m ∧ ov = .string ⟨(h ++ List.replicate k 0).toArray⟩ ∧ Below w.heap.size w wr) (fun o _ => match o with | .string x => 64 - x.size | _ => 0)
    case atStart => exact ⟨0, Nat.zero_le _, by simp, hbc⟩
    case round =>
      obtain ⟨k, hk, rfl, hb⟩ := hrel
      obtain ⟨S, hS⟩ : ∃ S, h ++ List.replicate k 0 = S := ⟨_, rfl⟩
      have hl : S.length = m + k := by rw [← hS, ← HM.out]; simp
      have hsz := size_of S
      rw [hl] at hsz
      have hS1 : h ++ List.replicate (k + 1) 0 = S ++ [0] := by rw [← hS, List.replicate_succ']; simp
      rw [hS]
      have hl64 := HL.out
      by_cases hlt : k < 64 - m
      · have hi : (m : Int) + (k : Int) < 64 := by omega
        have hadd2 : ∀ W : World, (Op.stringOp .add ⟨S.toArray⟩ ⟨[0].toArray⟩).run Try.prog W = .ok (.string ⟨(S ++ [0]).toArray⟩) W := fun W => run_string_add_lists (P := Try.prog) W S [0] (by omega) (by simp)
        have hcz : ∀ W : World, (convert 60 9 (.slice (some ⟨W.heap.size, 0, none⟩) 1 1)).run Try.prog (W.alloc (.cells #[.int .u8 0] 5)) = .ok (.string ⟨[0].toArray⟩) (W.alloc (.cells #[.int .u8 0] 5)) := fun W => one_byte 0 W
        have HS1 := Lib.hid hS1
        have HLE := Lib.hid hl
        clear hS1 hS hl
        go_wp2
        refine ⟨⟨k + 1, by omega, by rw [HS1.out], ba hb _⟩, ?_⟩
        show 64 - (⟨(S ++ [0]).toArray⟩ : ByteArray).size < 64 - (⟨S.toArray⟩ : ByteArray).size
        rw [size_of, size_of, List.length_append, HLE.out]
        simp
        omega
      · obtain rfl : k = 64 - m := by omega
        have hi : ¬ (m : Int) + ((64 - m : Nat) : Int) < 64 := by omega
        have HH2 := Lib.hid hS
        clear hS1 hS hl
        go_wp2
        go_ret
        rw [HF.out, HH2.out]
        exact ⟨rfl, hb⟩
end Go.Proofs.Ytilcondnpoinkaa
