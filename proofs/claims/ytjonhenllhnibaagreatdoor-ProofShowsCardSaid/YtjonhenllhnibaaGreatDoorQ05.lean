/- Texts of this seat, one behind the other: CRef, CValue. -/
import Derived.Test.YtjonhenllhnibaaGreatDoorQ04
/- Contracts of the reference's One, Long, Join and Kinds. -/
namespace Go.Proofs.YtjonhenllhnibaaGreatDoor
open Go.RowKit

set_option maxRecDepth 100000 in
set_option maxHeartbeats 1000000 in
theorem one_num (n : Nat) (s : List UInt8) (w : World) (hn : (n : Int) ≤ 18446744073709551615) :
    Calls Tryz.prog 73 #[.agg #[.bool false, .int .u64 (n : Int), .string ⟨s.toArray⟩]] w fun e w' => e = .returned (.string ⟨(low n 8).toArray⟩) ∧ Below w.heap.size w w' := by
  go_enter Tryz.func73, Tryz.ntmps73
  go_wp2_with fail
  refine (rlow_any n 8 _ (by omega) hn).mono ?_
  rintro e w1 ⟨rfl, hb⟩
  go_wp2
  go_ret
  exact ⟨rfl, bt (ba (Below.refl _ _) _) hb⟩
theorem rlow_two (n : Nat) (w : World) (hn : (n : Int) ≤ 18446744073709551615) :
    Calls Tryz.prog 72 #[.int .u64 (n : Int), .int .i64 2] w fun e w' => e = .returned (.string ⟨(low n 2).toArray⟩) ∧ Below w.heap.size w w' := rlow_any n 2 w (by omega) hn
set_option maxRecDepth 100000 in
set_option maxHeartbeats 1000000 in
theorem one_text (n : Nat) (s : List UInt8) (w : World) (hs : s.length ≤ 4096) :
    Calls Tryz.prog 73 #[.agg #[.bool true, .int .u64 (n : Int), .string ⟨s.toArray⟩]] w fun e w' => e = .returned (.string ⟨(low s.length 2 ++ s).toArray⟩) ∧ Below w.heap.size w w' := by
  have hz := size_mk s
  have hll := low_length s.length 2
  have hadd : ∀ W : World, (Op.stringOp .add ⟨(low s.length 2).toArray⟩ ⟨s.toArray⟩).run Tryz.prog W = .ok (.string ⟨(low s.length 2 ++ s).toArray⟩) W := fun W => run_string_add_lists (P := Tryz.prog) W (low s.length 2) s (by omega) (by omega)
  have HLL := Lib.hid hll
  clear hll
  have B0 := (Blk.new w 107 #[.bool true, .int .u64 (n : Int), .string ⟨s.toArray⟩])
  have c2 := (B0.at_ (i := 2) rfl).1
  have HB := Lib.hid B0
  clear B0
  have hwr : IntKind.u64.wrap (s.length : Int) = (s.length : Int) := by rw [IntKind.wrap_u64]; omega
  go_enter Tryz.func73, Tryz.ntmps73
  go_wp2_with fail
  go_region_held3 (fun W => W.cell? ⟨w.heap.size, 2, none⟩ = some (.string ⟨s.toArray⟩)) (first | exact c2 | assumption | go_keep) (first | (go_at_call 72; (with_reducible refine (rlow_two s.length _ (by omega)).mono ?_); rintro e w1 ⟨rfl, hb⟩; have hS := ((HB.out.drew).below hb).cell 2))
  go_wp2
  go_ret
  exact ⟨rfl, bt ((ba (Below.refl _ _) _).drew) hb⟩
theorem one_any (x : Fld) (hx : OkF x) (hn : NumF x) (w : World) :
    Calls Tryz.prog 73 #[fval x] w fun e w' => e = .returned (.string ⟨(enc x).toArray⟩) ∧ Below w.heap.size w w' := by
  obtain ⟨t, n, s⟩ := x
  have hn1 : (n : Int) ≤ 18446744073709551615 := by have := hn.1; simp only at this; omega
  cases t
  · rw [enc_num]; exact one_num n s w hn1
  · rw [enc_text]; exact one_text n s w (hx rfl)

/-- A field's kind. -/
def kindOf (x : Fld) : UInt8 := if x.1 = true then 116 else 110
def kindsOf (L : List Fld) : List UInt8 := L.map kindOf
theorem kinds_take (L : List Fld) (k : Nat) (h : k < L.length) : kindsOf (L.take (k + 1)) = kindsOf (L.take k) ++ [kindOf L[k]] := by
  unfold kindsOf
  rw [← List.take_append_getElem h, List.map_append]
  rfl
theorem kinds_len (L : List Fld) : (kindsOf L).length = L.length := by simp [kindsOf]

end Go.Proofs.YtjonhenllhnibaaGreatDoor
/- The contract of the reference's Value. -/
namespace Go.Proofs.YtjonhenllhnibaaGreatDoor
open Go.RowKit

theorem val_drop (s : List UInt8) (j : Nat) (h : j < s.length) : val (s.drop j) = s[j].toNat + 256 * val (s.drop (j + 1)) := by
  rw [List.drop_eq_getElem_cons h, val]
theorem val_drop_le (s : List UInt8) (j : Nat) (hs : s.length ≤ 8) (h : 1 ≤ j) : val (s.drop j) ≤ 72057594037927935 := by
  have h1 := val_lt (s.drop j)
  rw [List.length_drop] at h1
  have : 256 ^ (s.length - j) ≤ 256 ^ 7 := Nat.pow_le_pow_right (by omega) (by omega)
  omega

set_option maxRecDepth 100000 in
set_option maxHeartbeats 1000000 in
theorem value_any (s : List UInt8) (w : World) (hs : s.length ≤ 8) :
    Calls Tryz.prog 106 #[.string ⟨s.toArray⟩] w fun e w' => e = .returned (.int .u64 (val s : Int)) ∧ w = w' := by
  have hz := size_mk s
  go_enter Tryz.func106, Tryz.ntmps106
  go_wp2_with fail
  go_loop [3, 4] (fun ov iv => ∃ j : Nat, j ≤ s.length ∧ iv = .int .i64 ((j : Int) - 1) ∧ ov = .int .u64 (val (s.drop j) : Int)) (fun _ i => (intOf i + 1).toNat)
  case atStart => exact ⟨s.length, Nat.le_refl _, rfl, by simp [val]⟩
  case round =>
    obtain ⟨j, hj, rfl, rfl⟩ := hrel
    cases j with
    | zero =>
      rw [List.drop_zero]
      go_wp2
      go_ret
      exact ⟨rfl, rfl⟩
    | succ j =>
      have hlt : j < s.length := by omega
      have hget := get_mk s j (by rw [hz]; exact hlt)
      have HV := Lib.hid (val_drop s j hlt)
      have hle := val_drop_le s (j + 1) hs (by omega)
      obtain ⟨b, hb⟩ : ∃ b, s[j] = b := ⟨_, rfl⟩
      rw [hb] at hget HV
      have hb8 := b.toNat_lt
      obtain ⟨V, hV⟩ : ∃ V, val (s.drop (j + 1)) = V := ⟨_, rfl⟩
      rw [hV] at HV hle ⊢
      have ej : ((j + 1 : Nat) : Int) - 1 = (j : Int) := by omega
      rw [ej]
      clear hb hV ej
      go_wp2
      exact ⟨⟨j, by omega, rfl, by rw [HV.out]; go_num⟩, by simp [intOf]⟩
end Go.Proofs.YtjonhenllhnibaaGreatDoor
