/- The contracts of stage 6's cut and alive. -/
import Derived.Test.YtodolffolbkaaaaASteps
import Derived.Test.YtodolffolbkaaaaARBase
namespace Go.Proofs.Ytodolffolbkaaaa
open Go.RowKit

set_option maxRecDepth 100000 in
set_option maxHeartbeats 1000000 in
theorem cut_any (s : List UInt8) (w : World) (hs : (s.length : Int) ≤ 9223372036854775807) :
    Calls Try.prog 8 #[.string ⟨s.toArray⟩] w fun e w' => e = .returned (.string ⟨(s.take 40).toArray⟩) ∧ w = w' := by
  have hz := size_of s
  obtain ⟨N, hN⟩ : ∃ N, s.length = N := ⟨_, rfl⟩
  rw [hN] at hz hs
  obtain ⟨m, hm⟩ : ∃ m, min N 40 = m := ⟨_, rfl⟩
  have hex := extract_take s m
  have he : s.take m = s.take 40 := by
    rw [← hm]
    by_cases h : N ≤ 40
    · rw [Nat.min_eq_left h, List.take_of_length_le (by omega), List.take_of_length_le (by omega)]
    · rw [Nat.min_eq_right (by omega)]
  rw [he] at hex
  have h1 : (m : Int) ≤ (N : Int) := by omega
  have h2 : min (N : Int) 40 = (m : Int) := by omega
  have h3 : m ≤ N := by omega
  clear hm he hN
  go_enter Try.func8, Try.ntmps8
  go_wp2
  go_ret
  exact ⟨rfl, rfl⟩
theorem box_zero : ub (boxG (zerosL 16)) 0 = 99 := by decide +kernel
theorem mix_zero : mixG (zerosL 16) = zerosL 16 := by decide +kernel

set_option maxRecDepth 100000 in
set_option maxHeartbeats 1000000 in
theorem alive_any (w : World) : Calls Try.prog 11 #[] w fun e w' => e = .returned (.bool true) ∧ Below w.heap.size w w' := by
  have hmk : (Instr.makeSlice 40 (.int .i64 16) (.int .i64 16)).run Try.prog w = .ok (.slice (some ⟨w.heap.size, 0, none⟩) 16 16) (w.alloc (.cells ((zerosL 16).map uv).toArray 5)) := make_bytes 16 16 (by omega) (by omega) w
  have hcv := text_of (Blk.new w 5 ((zerosL 16).map uv).toArray) (n := 16) (c := 16) (zerosL_len 16)
  have HB := Lib.hid (fun W => box_yes (zerosL 16) W (zerosL_len 16))
  have HM := Lib.hid (fun W => mix_yes (zerosL 16) W (zerosL_len 16))
  rw [mix_zero] at HM
  have hix := index_of (boxG (zerosL 16)) 0 0 rfl (by rw [boxG_len]; omega)
  rw [box_zero] at hix
  have hsz := size_of (boxG (zerosL 16))
  rw [boxG_len] at hsz
  generalize boxG (zerosL 16) = A at HB hix hsz
  have hbb := ba (Below.refl w.heap.size w) (.cells ((zerosL 16).map uv).toArray 5)
  generalize zerosL 16 = Z at HB HM hmk hcv hbb
  generalize w.alloc (.cells (Z.map uv).toArray 5) = w1 at hmk hcv hbb
  go_enter Try.func11, Try.ntmps11
  go_wp2_with fail
  refine (HB.out _).mono ?_
  rintro e w2 ⟨rfl, hb2⟩
  go_wp2_with fail
  refine (HM.out _).mono ?_
  rintro e w3 ⟨rfl, hb3⟩
  go_wp2
  go_ret
  exact ⟨rfl, bt (bt hbb hb2) hb3⟩
end Go.Proofs.Ytodolffolbkaaaa
