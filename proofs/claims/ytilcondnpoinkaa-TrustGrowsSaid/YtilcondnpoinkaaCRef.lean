/- Contracts of the reference's One, Long, Join and Kinds. -/
import Derived.Test.YtilcondnpoinkaaCJoin
namespace Go.Proofs.Ytilcondnpoinkaa
open Go.RowKit

set_option maxRecDepth 100000 in
set_option maxHeartbeats 1000000 in
theorem one_num (n : Nat) (s : List UInt8) (w : World) (hn : (n : Int) ≤ 18446744073709551615) :
    Calls Try.prog 24 #[.agg #[.bool false, .int .u64 (n : Int), .string ⟨s.toArray⟩]] w fun e w' => e = .returned (.string ⟨(low n 8).toArray⟩) ∧ Below w.heap.size w w' := by
  go_enter Try.func24, Try.ntmps24
  go_wp2_with fail
  refine (rlow_any n 8 _ (by omega) hn).mono ?_
  rintro e w1 ⟨rfl, hb⟩
  go_wp2
  go_ret
  exact ⟨rfl, bt (ba (Below.refl _ _) _) hb⟩
theorem rlow_two (n : Nat) (w : World) (hn : (n : Int) ≤ 18446744073709551615) :
    Calls Try.prog 31 #[.int .u64 (n : Int), .int .i64 2] w fun e w' => e = .returned (.string ⟨(low n 2).toArray⟩) ∧ Below w.heap.size w w' := rlow_any n 2 w (by omega) hn
set_option maxRecDepth 100000 in
set_option maxHeartbeats 1000000 in
theorem one_text (n : Nat) (s : List UInt8) (w : World) (hs : s.length ≤ 4096) :
    Calls Try.prog 24 #[.agg #[.bool true, .int .u64 (n : Int), .string ⟨s.toArray⟩]] w fun e w' => e = .returned (.string ⟨(low s.length 2 ++ s).toArray⟩) ∧ Below w.heap.size w w' := by
  have hz := size_mk s
  have hll := low_length s.length 2
  have hadd : ∀ W : World, (Op.stringOp .add ⟨(low s.length 2).toArray⟩ ⟨s.toArray⟩).run Try.prog W = .ok (.string ⟨(low s.length 2 ++ s).toArray⟩) W := fun W => run_string_add_lists (P := Try.prog) W (low s.length 2) s (by omega) (by omega)
  have HLL := Lib.hid hll
  clear hll
  have B0 := (Blk.new w 45 #[.bool true, .int .u64 (n : Int), .string ⟨s.toArray⟩])
  have c2 := (B0.at_ (i := 2) rfl).1
  have HB := Lib.hid B0
  clear B0
  have hwr : IntKind.u64.wrap (s.length : Int) = (s.length : Int) := by rw [IntKind.wrap_u64]; omega
  go_enter Try.func24, Try.ntmps24
  go_wp2_with fail
  go_region_held3 (fun W => W.cell? ⟨w.heap.size, 2, none⟩ = some (.string ⟨s.toArray⟩)) (first | exact c2 | assumption | go_keep) (first | (go_at_call 31; (with_reducible refine (rlow_two s.length _ (by omega)).mono ?_); rintro e w1 ⟨rfl, hb⟩; have hS := ((HB.out.drew).below hb).cell 2))
  go_wp2
  go_ret
  exact ⟨rfl, bt ((ba (Below.refl _ _) _).drew) hb⟩
theorem one_any (x : Fld) (hx : OkF x) (hn : NumF x) (w : World) :
    Calls Try.prog 24 #[fval x] w fun e w' => e = .returned (.string ⟨(enc x).toArray⟩) ∧ Below w.heap.size w w' := by
  obtain ⟨t, n, s⟩ := x
  have hn1 : (n : Int) ≤ 18446744073709551615 := by have := hn.1; simp only at this; omega
  cases t
  · rw [enc_num]; exact one_num n s w hn1
  · rw [enc_text]; exact one_text n s w (hx rfl)

/-- A field's kind. -/
def kindOf (x : Fld) : UInt8 := if x.1 = true then 116 else 110
def kindsOf (L : List Fld) : List UInt8 := L.map kindOf
theorem kinds_take (L : List Fld) (k : Nat) (h : k < L.length) : kindsOf (L.take (k + 1)) = kindsOf (L.take k) ++ [kindOf L[k]] := by
  unfold kindsOf
  rw [← List.take_append_getElem h, List.map_append]
  rfl
theorem kinds_len (L : List Fld) : (kindsOf L).length = L.length := by simp [kindsOf]

end Go.Proofs.Ytilcondnpoinkaa
