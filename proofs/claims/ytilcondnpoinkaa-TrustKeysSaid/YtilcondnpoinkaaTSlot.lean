/- The contracts of isKey, mayBe and New, and of the reference's Key and Right. -/
import Derived.Test.YtilcondnpoinkaaMem
namespace Go.Proofs.Ytilcondnpoinkaa
open Go.RowKit

/-- Is a text as long as a slot's key? -/
def keyB (k : List UInt8) : Bool := k.length == 16 || k.length == 32
/-- May a slot be? -/
def mayB (b : Nat) (k : List UInt8) : Bool := keyB k && decide (b ≤ 4294967295)
/-- A slot. -/
abbrev tv (n b : Nat) (k : List UInt8) : Value := .agg #[.int .u64 (n : Int), .int .u64 (b : Int), .string ⟨k.toArray⟩]

set_option maxRecDepth 100000 in
set_option maxHeartbeats 1000000 in
theorem isKey_any (k : List UInt8) (w : World) (hk : (k.length : Int) ≤ 9223372036854775807) :
    Calls Try.prog 17 #[.string ⟨k.toArray⟩] w fun e w' => e = .returned (.bool (keyB k)) ∧ w = w' := by
  have hz := size_mk k
  unfold keyB
  obtain ⟨n, hn⟩ : ∃ n, k.length = n := ⟨_, rfl⟩
  rw [hn] at hz hk ⊢
  by_cases h1 : n = 16
  · subst h1
    go_enter Try.func17, Try.ntmps17
    go_wp2
    go_ret
    exact ⟨rfl, rfl⟩
  · have e1 : ((n : Int) == 16) = false := by simp; omega
    have e2 : ((n : Int) == 32) = (n == 32) := by rw [Bool.eq_iff_iff]; simp; omega
    have e3 : (n == 16) = false := by simp; omega
    rw [e3, Bool.false_or]
    clear h1
    go_enter Try.func17, Try.ntmps17
    go_wp2
    go_ret
    exact ⟨by simp, rfl⟩

set_option maxRecDepth 100000 in
set_option maxHeartbeats 1000000 in
theorem tkey_any (k : List UInt8) (w : World) (hk : (k.length : Int) ≤ 9223372036854775807) :
    Calls Try.prog 10 #[.string ⟨k.toArray⟩] w fun e w' => e = .returned (.bool (keyB k)) ∧ w = w' := by
  have hz := size_mk k
  unfold keyB
  obtain ⟨n, hn⟩ : ∃ n, k.length = n := ⟨_, rfl⟩
  rw [hn] at hz hk ⊢
  by_cases h1 : n = 16
  · subst h1
    go_enter Try.func10, Try.ntmps10
    go_wp2
    go_ret
    exact ⟨rfl, rfl⟩
  · have e1 : ((n : Int) == 16) = false := by simp; omega
    have e2 : ((n : Int) == 32) = (n == 32) := by rw [Bool.eq_iff_iff]; simp; omega
    have e3 : (n == 16) = false := by simp; omega
    rw [e3, Bool.false_or]
    clear h1
    go_enter Try.func10, Try.ntmps10
    go_wp2
    go_ret
    exact ⟨by simp, rfl⟩

set_option maxRecDepth 100000 in
set_option maxHeartbeats 1000000 in
theorem mayBe_any (n b : Nat) (k : List UInt8) (w : World) (hk : (k.length : Int) ≤ 9223372036854775807) :
    Calls Try.prog 18 #[tv n b k] w fun e w' => e = .returned (.bool (mayB b k)) ∧ Below w.heap.size w w' := by
  have hb0 := ba (Below.refl w.heap.size w) (.cells #[.int .u64 (n : Int), .int .u64 (b : Int), .string ⟨k.toArray⟩] 24)
  have e2 : decide ((b : Int) ≤ 4294967295) = decide (b ≤ 4294967295) := by rw [decide_eq_decide]; omega
  unfold mayB
  obtain ⟨KB, hK⟩ : ∃ KB, keyB k = KB := ⟨_, rfl⟩
  rw [hK]
  go_enter Try.func18, Try.ntmps18
  go_wp2_with fail
  refine (isKey_any k _ hk).mono ?_
  rw [hK]
  rintro e w1 ⟨rfl, rfl⟩
  clear hK
  cases KB
  · go_wp2
    go_ret
    exact ⟨rfl, hb0⟩
  · skip
    go_wp2
    go_ret
    exact ⟨by first | rfl | (simp; done) | (simp; omega), hb0⟩

set_option maxRecDepth 100000 in
set_option maxHeartbeats 1000000 in
theorem tright_any (n b : Nat) (k : List UInt8) (w : World) (hk : (k.length : Int) ≤ 9223372036854775807) :
    Calls Try.prog 12 #[tv n b k] w fun e w' => e = .returned (.bool (mayB b k)) ∧ Below w.heap.size w w' := by
  have hb0 := ba (Below.refl w.heap.size w) (.cells #[.int .u64 (n : Int), .int .u64 (b : Int), .string ⟨k.toArray⟩] 24)
  unfold mayB
  obtain ⟨KB, hK⟩ : ∃ KB, keyB k = KB := ⟨_, rfl⟩
  rw [hK]
  go_enter Try.func12, Try.ntmps12
  go_wp2_with fail
  refine (tkey_any k _ hk).mono ?_
  rw [hK]
  rintro e w1 ⟨rfl, rfl⟩
  clear hK
  cases KB
  · go_wp2
    go_ret
    exact ⟨rfl, hb0⟩
  · skip
    go_wp2
    go_ret
    exact ⟨by first | rfl | (simp; done) | (simp; omega), hb0⟩

theorem tcells {W : World} {g : Nat} {t : TypeId} {x y z : Value} (h : Blk W g t #[x, y, z]) :
    (W.cell? ⟨g, 0, none⟩ = some x ∧ W.cell? ⟨g, 1, none⟩ = some y ∧ W.cell? ⟨g, 2, none⟩ = some z) ∧ W.frozen? ⟨g, 0, none⟩ = false ∧ W.frozen? ⟨g, 1, none⟩ = false ∧ W.frozen? ⟨g, 2, none⟩ = false :=
  ⟨⟨h.cell 0, h.cell 1, h.cell 2⟩, h.frozen 0, h.frozen 1, h.frozen 2⟩
/-- What a slot and an error are handed back as. -/
theorem slot_result {fn : Func} {p u : Tmp} {tmps : Array Value} {W : World} {g : Nat} {x y z v : Value} (h : fn.results = #[.cell p 24, .tmp u]) (hb : Blk W g 24 #[x, y, z]) (hp : tmps.getD p undef = .pointer (some ⟨g, 0, none⟩) := by rfl) (hu : tmps.getD u undef = v := by rfl) :
    (results fn tmps).run Try.prog W = .ok (.tuple #[.agg #[x, y, z], v]) W := by
  obtain ⟨⟨q0, q1, q2⟩, _⟩ := tcells hb
  rw [results_cell_tmp h, hp, hu]
  go_simp

set_option maxRecDepth 100000 in
set_option maxHeartbeats 1000000 in
theorem tnew_no (k : List UInt8) (w : World) (hk : (k.length : Int) ≤ 9223372036854775807) (h : keyB k = false) :
    Calls Try.prog 7 #[.string ⟨k.toArray⟩] w fun e w' => e = .returned (.tuple #[tv 0 0 [], .int .i64 4]) ∧ Below w.heap.size w w' := by
  go_enter Try.func7, Try.ntmps7
  go_wp2_with fail
  refine (isKey_any k _ hk).mono ?_
  rw [h]
  rintro e w1 ⟨rfl, rfl⟩
  go_wp2
  refine bodyPost_ret (slot_result rfl (Blk.new w 24 #[.int .u64 0, .int .u64 0, .string ⟨#[]⟩])) rfl ?_
  exact ⟨rfl, ba (Below.refl _ _) _⟩

set_option maxRecDepth 100000 in
set_option maxHeartbeats 1000000 in
theorem tnew_yes (k : List UInt8) (w : World) (hk : (k.length : Int) ≤ 9223372036854775807) (h : keyB k = true) :
    Calls Try.prog 7 #[.string ⟨k.toArray⟩] w fun e w' => e = .returned (.tuple #[tv 0 0 k, .int .i64 0]) ∧ Below w.heap.size w w' := by
  go_enter Try.func7, Try.ntmps7
  go_wp2_with fail
  refine (isKey_any k _ hk).mono ?_
  rw [h]
  rintro e w1 ⟨rfl, rfl⟩
  go_wp2
  refine bodyPost_ret (slot_result rfl (Blk.new w 24 #[.int .u64 0, .int .u64 0, .string ⟨k.toArray⟩])) rfl ?_
  exact ⟨rfl, ba (Below.refl _ _) _⟩
end Go.Proofs.Ytilcondnpoinkaa
