/- Texts of this seat, one behind the other: TSlot. -/
import Derived.Test.YtcecjoodlmpgnaaGreatQ01
/- The contracts of isKey, mayBe and New, and of the reference's Key and Right. -/
namespace Go.Proofs.YtcecjoodlmpgnaaGreat
open Go.RowKit

/-- Is a text as long as a slot's key? -/
def keyB (k : List UInt8) : Bool := k.length == 16 || k.length == 32
/-- May a slot be? -/
def mayB (b : Nat) (k : List UInt8) : Bool := keyB k && decide (b ≤ 4294967295)
/-- A slot. -/
abbrev tv (n b : Nat) (k : List UInt8) : Value := .agg #[.int .u64 (n : Int), .int .u64 (b : Int), .string ⟨k.toArray⟩]

set_option maxRecDepth 100000 in
set_option maxHeartbeats 1000000 in
theorem tkey_any (k : List UInt8) (w : World) (hk : (k.length : Int) ≤ 9223372036854775807) :
    Calls Tryz.prog 11 #[.string ⟨k.toArray⟩] w fun e w' => e = .returned (.bool (keyB k)) ∧ w = w' := by
  have hz := size_mk k
  unfold keyB
  obtain ⟨n, hn⟩ : ∃ n, k.length = n := ⟨_, rfl⟩
  rw [hn] at hz hk ⊢
  by_cases h1 : n = 16
  · subst h1
    go_enter Tryz.func11, Tryz.ntmps11
    go_wp2
    go_ret
    exact ⟨rfl, rfl⟩
  · have e1 : ((n : Int) == 16) = false := by simp; omega
    have e2 : ((n : Int) == 32) = (n == 32) := by rw [Bool.eq_iff_iff]; simp; omega
    have e3 : (n == 16) = false := by simp; omega
    rw [e3, Bool.false_or]
    clear h1
    go_enter Tryz.func11, Tryz.ntmps11
    go_wp2
    go_ret
    exact ⟨by simp, rfl⟩

theorem tcells {W : World} {g : Nat} {t : TypeId} {x y z : Value} (h : Blk W g t #[x, y, z]) :
    (W.cell? ⟨g, 0, none⟩ = some x ∧ W.cell? ⟨g, 1, none⟩ = some y ∧ W.cell? ⟨g, 2, none⟩ = some z) ∧ W.frozen? ⟨g, 0, none⟩ = false ∧ W.frozen? ⟨g, 1, none⟩ = false ∧ W.frozen? ⟨g, 2, none⟩ = false :=
  ⟨⟨h.cell 0, h.cell 1, h.cell 2⟩, h.frozen 0, h.frozen 1, h.frozen 2⟩
end Go.Proofs.YtcecjoodlmpgnaaGreat
