/- Texts of this seat, one behind the other: TSlot, TNum, TKeys. -/
import Derived.Laws.Bits64b
import Derived.Test.YtjonhenllhnibaaGreatDoorQ01
import Derived.Test.YtjonhenllhnibaaGreatDoorQ04
import Derived.Test.YtjonhenllhnibaaGreatDoorQ05
import Derived.Test.YtjonhenllhnibaaGreatDoorQ11
/- The contracts of isKey, mayBe and New, and of the reference's Key and Right. -/
namespace Go.Proofs.YtjonhenllhnibaaGreatDoor
open Go.RowKit

/-- Is a text as long as a slot's key? -/
def keyB (k : List UInt8) : Bool := k.length == 16 || k.length == 32
/-- May a slot be? -/
def mayB (b : Nat) (k : List UInt8) : Bool := keyB k && decide (b ≤ 4294967295)
/-- A slot. -/
abbrev tv (n b : Nat) (k : List UInt8) : Value := .agg #[.int .u64 (n : Int), .int .u64 (b : Int), .string ⟨k.toArray⟩]

theorem tcells {W : World} {g : Nat} {t : TypeId} {x y z : Value} (h : Blk W g t #[x, y, z]) :
    (W.cell? ⟨g, 0, none⟩ = some x ∧ W.cell? ⟨g, 1, none⟩ = some y ∧ W.cell? ⟨g, 2, none⟩ = some z) ∧ W.frozen? ⟨g, 0, none⟩ = false ∧ W.frozen? ⟨g, 1, none⟩ = false ∧ W.frozen? ⟨g, 2, none⟩ = false :=
  ⟨⟨h.cell 0, h.cell 1, h.cell 2⟩, h.frozen 0, h.frozen 1, h.frozen 2⟩
end Go.Proofs.YtjonhenllhnibaaGreatDoor
/- The contract of number: what some bytes tell, the lowest first. -/
namespace Go.Proofs.YtjonhenllhnibaaGreatDoor
open Go.RowKit

set_option maxRecDepth 100000 in
set_option maxHeartbeats 1000000 in
theorem number64_any (s : List UInt8) (w : World) (hs : s.length = 8) :
    Calls Tryz.prog 103 #[.string ⟨s.toArray⟩] w fun e w' => e = .returned (.int .u64 (val s : Int)) ∧ w = w' := by
  have hz := size_mk s
  rw [hs] at hz
  go_enter Tryz.func103, Tryz.ntmps103
  go_wp2_with fail
  go_loop [3, 4, 7] (fun nv jv iv => ∃ k : Nat, k ≤ 8 ∧ iv = .int .i64 k ∧ nv = .int .u64 (val (part s 0 k) : Int)) (fun _ _ i => 8 - (intOf i).toNat)
  case atStart => exact ⟨0, Nat.zero_le _, rfl, by simp [part, val]⟩
  case round =>
    obtain ⟨k, hk, rfl, rfl⟩ := hrel
    by_cases hlt : k < 8
    · have hlt2 : k < s.length := by omega
      have hvp := val_part_succ s 0 k (by omega)
      have hvl := val_part_lt s 0 k (by omega) (by omega)
      have hget := get_mk s k (by rw [hz]; exact hlt)
      obtain ⟨b, hb⟩ : ∃ b, s[k] = b := ⟨_, rfl⟩
      have hb0 : s[0 + k]'(by omega) = b := by rw [← hb]; congr 1; omega
      rw [hb] at hget
      rw [hb0] at hvp
      have hb8 := b.toNat_lt
      obtain ⟨e, he⟩ : ∃ e, e = 8 * k := ⟨_, rfl⟩
      have hmul : IntKind.i64.wrap (8 * (k : Int)) = (e : Int) := by rw [IntKind.wrap_i64]; omega
      have hsh := shl_run b.toNat k e (by omega) (by omega) he
      have hor := bits_or_u64_nat (val (part s 0 k)) (b.toNat * 256 ^ k) hvl (pow_lt_8 _ _ (by omega) (by omega))
      rw [← hvp] at hor
      obtain ⟨X, hX⟩ : ∃ X, b.toNat * 256 ^ k = X := ⟨_, rfl⟩
      rw [hX] at hsh hor
      obtain ⟨V, hV⟩ : ∃ V, val (part s 0 k) = V := ⟨_, rfl⟩
      obtain ⟨V2, hV2⟩ : ∃ V2, val (part s 0 (k + 1)) = V2 := ⟨_, rfl⟩
      rw [hV, hV2] at hor
      rw [hV]
      have HV2 := Lib.hid hV2
      have hwb : IntKind.u64.wrap (b.toNat : Int) = (b.toNat : Int) := by rw [IntKind.wrap_u64]; omega
      clear hvp hvl hb8 he hX hV hV2 hb hb0
      go_wp2
      exact ⟨⟨k + 1, by omega, by go_num, by rw [HV2.out]⟩, by simp [intOf]; omega⟩
    · obtain rfl : k = 8 := by omega
      have hpt : part s 0 8 = s := by unfold part; rw [List.drop_zero, List.take_of_length_le (by omega)]
      rw [hpt]
      go_wp2
      go_ret
      exact ⟨rfl, rfl⟩
end Go.Proofs.YtjonhenllhnibaaGreatDoor
/- The contracts of Word and Derive, and of the reference's. -/
namespace Go.Proofs.YtjonhenllhnibaaGreatDoor
open Go.RowKit

/-- A key's number for a text. -/
def wordL (k s : List UInt8) : Nat := val ((mtagL k s).take 8)
theorem wordL_lt (k s : List UInt8) : wordL k s < 18446744073709551616 := by
  have h := val_lt ((mtagL k s).take 8)
  have hl : ((mtagL k s).take 8).length = 8 := by rw [List.length_take, mtagL_len]; rfl
  rw [hl] at h
  exact h

set_option maxRecDepth 100000 in
set_option maxHeartbeats 1000000 in
theorem tword_any (k s : List UInt8) (w : World) (hk : k.length ≤ 60000) (hs : s.length ≤ 60000) :
    Calls Tryz.prog 78 #[.string ⟨k.toArray⟩, .string ⟨s.toArray⟩] w fun e w' => e = .returned (.int .u64 (wordL k s : Int)) ∧ Below w.heap.size w w' := by
  have hl := mtagL_len k s
  have T1 := Lib.hid (mtag_any k s w hk hs)
  have HW : Hid (wordL k s = val ((mtagL k s).take 8)) := Lib.hid rfl
  generalize mtagL k s = T at hl T1 HW
  have hz := size_mk T
  rw [hl] at hz
  have hex := extract_take T 8
  have N1 := Lib.hid (fun W => number64_any (T.take 8) W (by rw [List.length_take, hl]; rfl))
  rw [← HW.out] at N1
  clear HW hl
  generalize wordL k s = V at N1 ⊢
  generalize T.take 8 = U at N1 hex
  go_enter Tryz.func78, Tryz.ntmps78
  go_wp2_with fail
  refine T1.out.mono ?_
  rintro e w1 ⟨rfl, hb1⟩
  go_wp2_with fail
  refine (N1.out _).mono ?_
  rintro e w2 ⟨rfl, rfl⟩
  go_wp2
  go_ret
  exact ⟨rfl, hb1⟩

set_option maxRecDepth 100000 in
set_option maxHeartbeats 1000000 in
theorem rtword_any (k s : List UInt8) (w : World) (hk : k.length ≤ 60000) (hs : s.length ≤ 60000) :
    Calls Tryz.prog 84 #[.string ⟨k.toArray⟩, .string ⟨s.toArray⟩] w fun e w' => e = .returned (.int .u64 (wordL k s : Int)) ∧ Below w.heap.size w w' := by
  have hl := mtagL_len k s
  have T1 := Lib.hid (rtag_any k s w hk hs)
  have HW : Hid (wordL k s = val ((mtagL k s).take 8)) := Lib.hid rfl
  generalize mtagL k s = T at hl T1 HW
  have hz := size_mk T
  rw [hl] at hz
  have hex := extract_take T 8
  have N1 := Lib.hid (fun W => value_any (T.take 8) W (by rw [List.length_take]; omega))
  rw [← HW.out] at N1
  clear HW hl
  generalize wordL k s = V at N1 ⊢
  generalize T.take 8 = U at N1 hex
  go_enter Tryz.func84, Tryz.ntmps84
  go_wp2_with fail
  refine T1.out.mono ?_
  rintro e w1 ⟨rfl, hb1⟩
  go_wp2_with fail
  refine (N1.out _).mono ?_
  rintro e w2 ⟨rfl, rfl⟩
  go_wp2
  go_ret
  exact ⟨rfl, hb1⟩

/-- A slot's key for a name. -/
def deriveL (k s : List UInt8) : List UInt8 := (mtagL k (low s.length 2 ++ s)).take k.length
theorem deriveL_len (k s : List UInt8) (h : keyB k = true) : (deriveL k s).length = k.length := by
  have : k.length ≤ 32 := by simp [keyB] at h; omega
  rw [deriveL, List.length_take, mtagL_len]
  omega
theorem keyB_le {k : List UInt8} (h : keyB k = true) : k.length ≤ 32 := by simp [keyB] at h; omega

end Go.Proofs.YtjonhenllhnibaaGreatDoor
