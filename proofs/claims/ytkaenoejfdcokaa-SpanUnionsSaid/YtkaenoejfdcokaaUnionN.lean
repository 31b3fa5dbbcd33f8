/- Union of no span. -/
import Derived.Test.YtkaenoejfdcokaaUnion
namespace Go.Proofs.Ytkaenoejfdcokaa
open Go.RowKit Go.Shelf

set_option maxRecDepth 100000 in
set_option maxHeartbeats 4000000 in
theorem union_nil (a : Option Addr) (c : Nat) (w : World) :
    Calls Try.prog 23 #[.slice a 0 c] w (UnionPost w []) := by
  obtain ⟨i1, hi, hz0, hz1, hz2⟩ := info_parts info55
  go_enter Try.func23, Try.ntmps23
  go_wp2_with (at_make; refine wpList_make_own _ rfl _ _ 60 rfl w.heap.size 55 i1 (.agg #[.int .u64 0, .int .u64 0]) 2 Try.underlying60 hi hz0 hz1 .i64 .i64 _ 0 rfl rfl rfl (by rw [hz2]; omega) (by unfold maxLen; omega) (Nat.le_refl _) ?_; intro w0 hown0 hgrow0)
  have hB0 : Below w.heap.size w w0 := (Below.refl _ _).grown hgrow0 (Nat.le_refl _) (fun k e => by cases e)
  go_loopw [4, 14] (fun sv i wr => sv = .slice (some ⟨w.heap.size, 0, none⟩) 0 0 ∧ i = .int .i64 0 ∧ wr = w0) (fun _ _ _ => 0)
  case atStart => exact ⟨rfl, rfl, rfl⟩
  case round =>
    obtain ⟨rfl, rfl, rfl⟩ := hrel
    have hown := hown0
    have hb := hB0
    obtain ⟨_, ⟨he, _⟩ | ⟨g1, cap1, cur, he, hg1, hh, hle, hcap, hsz, htk⟩⟩ := hown
    · cases he
    cases he
    have hH : Go.Sort.HoldsK encE 2 wr w.heap.size 0 ([] : List E64).toArray := holds_owned hh (by simp [endPairs, rowCells])
    have hgl : w.heap.size < wr.heap.size := (Array.getElem?_eq_some_iff.1 hh).1
    go_wp2_with fail
    refine (sort_is w.heap.size _ 0 [] wr (show Hid (0 = ([] : List E64).length) from rfl) hH hgl (by omega)).mono ?_
    rintro e w3 ⟨rfl, S, hperm, hris, hlen, hends, hbel⟩
    have HS := Lib.hid hlen
    have hb3 := hB0.trans (hbel _ (Nat.le_refl _))
    have hs3 := hb3.size
    have hS0 : S = [] := by simpa using hlen
    subst hS0
    clear hlen
    go_wp2_with fail
    refine (joined_any _ _ _ _).mono ?_
    rintro e w4 ⟨rfl, rfl⟩
    have hH4 := hands_joined (S := []) (cap := 0) (by have := (hbel 0 (Nat.zero_le _)).size; omega : w.heap.size < w3.heap.size) (Nat.le_refl _) (Nat.zero_le _) hends
    go_wp2_with fail
    refine (spansC_any _ _ (joinE []) (by simp [joinE]) _ enters46 hH4).mono ?_
    rintro e w5 hS5
    have hU := union_end (ba hb3 _) (show endPairs [] = [].map endsP from rfl) hperm hris hS5
    obtain ⟨va, vn, vc, ve, rfl⟩ := spans_ends hS5
    go_wp2
    go_ret2
    exact hU

end Go.Proofs.Ytkaenoejfdcokaa
