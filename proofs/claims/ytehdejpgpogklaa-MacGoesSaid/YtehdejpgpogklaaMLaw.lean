/- The contracts of cut, few and alive, and of the reference's Same. -/
import Derived.Test.YtehdejpgpogklaaMTag
import Derived.Test.YtehdejpgpogklaaMHi
import Derived.Test.YtehdejpgpogklaaMRep
import Derived.Test.YtehdejpgpogklaaStr
import Derived.Test.YtehdejpgpogklaaBase
namespace Go.Proofs.Ytehdejpgpogklaa
open Go.RowKit

set_option maxRecDepth 100000 in
set_option maxHeartbeats 1000000 in
theorem cut_any (s : List UInt8) (w : World) (hs : (s.length : Int) ≤ 9223372036854775807) :
    Calls Try.prog 7 #[.string ⟨s.toArray⟩] w fun e w' => e = .returned (.string ⟨(s.take 200).toArray⟩) ∧ w = w' := by
  have hz := size_of s
  obtain ⟨N, hN⟩ : ∃ N, s.length = N := ⟨_, rfl⟩
  rw [hN] at hz hs
  obtain ⟨m, hm⟩ : ∃ m, min N 200 = m := ⟨_, rfl⟩
  have hex := extract_take s m
  have he : s.take m = s.take 200 := by
    rw [← hm]
    by_cases h : N ≤ 200
    · rw [Nat.min_eq_left h, List.take_of_length_le (by omega), List.take_of_length_le (by omega)]
    · rw [Nat.min_eq_right (by omega)]
  rw [he] at hex
  have h1 : (m : Int) ≤ (N : Int) := by omega
  have h2 : min (N : Int) 200 = (m : Int) := by omega
  have h3 : m ≤ N := by omega
  clear hm he hN
  go_enter Try.func7, Try.ntmps7
  go_wp2
  go_ret
  exact ⟨rfl, rfl⟩

theorem rep_eq : Lib.repeatL [11] 20 = List.replicate 20 11 := by decide +kernel
set_option maxRecDepth 100000 in
set_option maxHeartbeats 1000000 in
theorem alive_any (w : World) : Calls Try.prog 9 #[] w fun e w' => e = .returned (.bool true) ∧ Below w.heap.size w w' := by
  have HR : Hid (∀ W, Calls Try.prog 19 #[.string ⟨#[11]⟩, .int .i64 20] W fun e w' => e = .returned (.string ⟨(List.replicate 20 11).toArray⟩) ∧ Below W.heap.size W w') := Lib.hid (fun W => by
    have := Any.strings_Repeat repLays105 repLaysExtra ⟨#[11]⟩ 20 W (by omega) (by decide)
    rw [show (⟨#[11]⟩ : ByteArray).data.toList = [11] from rfl, rep_eq] at this
    exact this)
  have HS : Hid (∀ W, Calls Try.prog 10 #[.string ⟨(List.replicate 20 11).toArray⟩, .string ⟨#[72, 105, 32, 84, 104, 101, 114, 101]⟩] W fun e w' => e = .returned (.string ⟨hiBD.toArray⟩) ∧ Below W.heap.size W w') := Lib.hid (fun W => by
    have := mtag_any (List.replicate 20 11) [72, 105, 32, 84, 104, 101, 114, 101] W (by simp) (by simp)
    rw [hi_tag] at this
    exact this)
  generalize (List.replicate 20 (11 : UInt8)) = K at HR HS
  go_enter Try.func9, Try.ntmps9
  go_wp2_with fail
  refine (HR.out _).mono ?_
  rintro e w1 ⟨rfl, hb1⟩
  go_wp2_with fail
  refine (HS.out _).mono ?_
  rintro e w2 ⟨rfl, hb2⟩
  have hB2 := bt hb1 hb2
  clear hb1 hb2
  unfold hiBD
  go_wp2_with fail
  go_ret
  exact ⟨rfl, hB2⟩

def fewL (L : List (List UInt8)) : List (List UInt8) := (L.take 8).map (·.take 200)
theorem fewL_len (L : List (List UInt8)) : (fewL L).length ≤ 8 := by simp [fewL]; omega

set_option maxRecDepth 100000 in
set_option maxHeartbeats 2000000 in
theorem few_any (L : List (List UInt8)) (A : Option Addr) (c : Nat) (w : World) (hA : SR w A L) (hL : (L.length : Int) ≤ 9223372036854775807) (hc : L.length ≤ c) (hs : ∀ j, ((L.getD j []).length : Int) ≤ 9223372036854775807) :
    Calls Try.prog 12 #[.slice A L.length c] w fun e w' => ∃ A' c', e = .returned (.slice A' (fewL L).length c') ∧ w'.ownsRow w.heap.size 9 1 (.slice A' (fewL L).length c') (fewL L).length ((fewL L).map sv) ∧ Below w.heap.size w w' := by
  obtain ⟨ti, hi0, hz0, hz1, hz2⟩ := info_parts infoS
  have HA := Lib.hid hA
  have HS := Lib.hid hs
  obtain ⟨n, hn⟩ : ∃ n, L.length = n := ⟨_, rfl⟩
  rw [hn] at hL hc ⊢
  obtain ⟨m, hm⟩ : ∃ m, min n 8 = m := ⟨_, rfl⟩
  have HFL : Hid ((fewL L).length = m) := Lib.hid (by simp [fewL, hn]; omega)
  have HFT : Hid (∀ k, k < m → (fewL L).take (k + 1) = (fewL L).take k ++ [(L.getD k []).take 200]) := Lib.hid fun k hk => by
    rw [List.take_succ_eq_append_getElem (by rw [HFL.out]; exact hk)]
    congr 2
    simp [fewL, List.getD, show k < L.length by omega]
  have h1 : (m : Int) ≤ (n : Int) := by omega
  have h2 : min (n : Int) 8 = (m : Int) := by omega
  have h3 : m ≤ n := by omega
  have h4 : m ≤ 8 := by omega
  have h5 : (m : Int) ≤ (c : Int) := by omega
  have HN := Lib.hid hn
  rw [HFL.out]
  clear hn hm hA hs
  go_enter Try.func12, Try.ntmps12
  go_wp2_with fail
  go_loopw [3, 12] (fun ov iv wr => ∃ (k : Nat) (B : Option Addr) (d : Nat), k ≤ m ∧ iv = .int .i64 k ∧ ov = .slice B k d ∧ wr.ownsRow w.heap.size 9 1 (.slice B k d) k (((fewL L).take k).map sv) ∧ Below w.heap.size w wr) (fun _ i _ => m - (intOf i).toNat)
  case atStart => exact ⟨0, none, 0, Nat.zero_le _, rfl, rfl, World.ownsRow_nil _ _ _ _, Below.refl _ _⟩
  case round =>
    obtain ⟨k, B, d, hk, rfl, rfl, hown, hb⟩ := hrel
    by_cases hlt : k < m
    · obtain ⟨g, off, rfl, c0⟩ := (HA.out.later hb) k (by rw [HN.out]; omega)
      have HT := Lib.hid (HFT.out k hlt)
      have hsl := HS.out k
      generalize L.getD k [] = x at c0 HT hsl
      have HC := Lib.hid (fun W => cut_any x W hsl)
      generalize x.take 200 = y at HT HC
      have i0 : (0 : Int) ≤ (k : Int) := by omega
      have i1 : (k : Int) < (m : Int) := by omega
      have z := hb.size
      have HO := Lib.hid hown
      clear hsl hown
      go_wp2_with fail
      refine (HC.out _).mono ?_
      rintro e w1 ⟨rfl, rfl⟩
      have hownA := HO.out.alloc (.cells #[sv y] 9)
      have hnews := World.news_of_block (heap_alloc_new wr (.cells #[sv y] 9))
      go_wp2_with (at_builtin; refine wpList_append_own _ rfl _ _ 26 rfl w.heap.size 9 ti _ 1 16 Try.underlying26 hi0 hz0 hz1 hz2 rfl (by decide) _ _ _ rfl hownA ⟨wr.heap.size, 0, none⟩ 1 1 [sv y] rfl rfl hnews (by simp [Value.oneCell']) (by unfold maxLen; omega) (by omega) (by simp; omega) ?_; intro v3 w3 hown3 hgrow3 _; obtain ⟨g3, c3, rfl⟩ := ownsRow_succ hown3)
      have hb3 : Below w.heap.size w w3 := (ba hb _).grown hgrow3 (by simp; omega) (fun k e => (hownA.lt k e).1)
      exact ⟨⟨k + 1, some ⟨g3, 0, none⟩, c3, by omega, by go_num, rfl, by rw [HT.out, List.map_append]; exact hown3, hb3⟩, by simp [intOf]; omega⟩
    · obtain rfl : k = m := by omega
      have htk : (fewL L).take k = fewL L := List.take_of_length_le (by rw [HFL.out]; exact Nat.le_refl _)
      rw [htk] at hown
      clear htk
      go_wp2
      go_ret
      exact ⟨_, _, rfl, hown, hb⟩
end Go.Proofs.Ytehdejpgpogklaa
