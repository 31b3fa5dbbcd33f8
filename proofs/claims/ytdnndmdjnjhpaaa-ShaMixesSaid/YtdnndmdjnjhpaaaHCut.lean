/- cut, strings.HasPrefix and slices.Clone; the parameters' forms. -/
import Derived.Test.YtdnndmdjnjhpaaaHAlive
import Derived.Shelf.Strings.Prefix
import Derived.Sort.Walk0
import Derived.ProofKit
import Derived.Lib.SmallJoins
import Derived.Deep.Slices
import Derived.Deep.Fields
import Derived.ChangeSame
import Derived.ChangeMaps5
import Derived.ChangeArms
namespace Go.Proofs.Ytdnndmdjnjhpaaa
open Go.Shelf Go.RowKit
def preRen : Go.Shelf.Ren := ⟨fun | 99 => 21 | 206 => 35 | n => n, fun | 9 => 9 | 4 => 4 | 3 => 3 | n => n, fun | n => n⟩
theorem preLays : Go.Proofs.Lays.n99 Try.prog preRen := {
  mixed := by kernel_rfl
  f99 := Try.func21.trans (congrArg some (by kernel_rfl))
  f206 := Try.func35.trans (congrArg some (by kernel_rfl))
  t3 := Try.underlying3
  a3 := Try.isAgg3
  z3 := Try.sizeOf3
  v3 := Try.zeroValue3
  t4 := Try.underlying4
  a4 := Try.isAgg4
  z4 := Try.sizeOf4
  v4 := Try.zeroValue4
  t9 := Try.underlying9
  a9 := Try.isAgg9
  z9 := Try.sizeOf9
  v9 := Try.zeroValue9 }
theorem prefix_any (s p : List UInt8) (w : World) :
    Calls Try.prog 21 #[.string ⟨s.toArray⟩, .string ⟨p.toArray⟩] w fun e w' => e = .returned (.bool (p.isPrefixOf s)) ∧ w = w' :=
  (Any.strings_HasPrefix preLays ⟨s.toArray⟩ ⟨p.toArray⟩ w).mono fun _ _ ⟨h, k⟩ => ⟨by rw [h]; simp [Lib.hasPrefix], k.symm⟩

theorem str_list (s : ByteArray) : ∃ l : List UInt8, s = ⟨l.toArray⟩ ∧ l.length = s.size := ⟨s.data.toList, rfl, Array.length_toList⟩
theorem Try.own : ownKnob Try.prog.godebug = none := by kernel_rfl
theorem Try.laidOut : laidOutB Try.prog = true := by kernel_rfl
theorem extract_take (s : List UInt8) (m : Nat) : (⟨s.toArray⟩ : ByteArray).extract 0 m = ⟨(s.take m).toArray⟩ := by
  apply ByteArray.ext
  apply Array.toList_inj.1
  rw [Lib.extract_data]
  simp

set_option maxRecDepth 100000 in
set_option maxHeartbeats 1000000 in
theorem cut_any (s : List UInt8) (w : World) (hs : (s.length : Int) ≤ 9223372036854775807) :
    Calls Try.prog 13 #[.string ⟨s.toArray⟩] w fun e w' => e = .returned (.string ⟨(s.take 400).toArray⟩) ∧ w = w' := by
  have hz := size_of s
  obtain ⟨N, hN⟩ : ∃ N, s.length = N := ⟨_, rfl⟩
  rw [hN] at hz hs
  obtain ⟨m, hm⟩ : ∃ m, min N 400 = m := ⟨_, rfl⟩
  have hex := extract_take s m
  have he : s.take m = s.take 400 := by
    rw [← hm]
    by_cases h : N ≤ 400
    · rw [Nat.min_eq_left h, List.take_of_length_le (by omega), List.take_of_length_le (by omega)]
    · rw [Nat.min_eq_right (by omega)]
  rw [he] at hex
  have h1 : (m : Int) ≤ (N : Int) := by omega
  have h2 : min (N : Int) 400 = (m : Int) := by omega
  have h3 : m ≤ N := by omega
  clear hm he hN
  go_enter Try.func13, Try.ntmps13
  go_wp2
  go_ret
  exact ⟨rfl, rfl⟩
end Go.Proofs.Ytdnndmdjnjhpaaa
