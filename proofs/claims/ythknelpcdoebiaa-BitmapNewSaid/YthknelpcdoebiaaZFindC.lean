/- The contracts of Find. -/
import Derived.Test.YthknelpcdoebiaaZFind
namespace Go.Proofs.Ythknelpcdoebiaa
open Go.RowKit

set_option maxRecDepth 100000 in
set_option maxHeartbeats 2000000 in
theorem find_walk (N : Int) (A : Option Addr) (n c F : Nat) (many : Int) (w : World) (r : Bool) (x e : Int)
    (HR : Hid (∀ W, Below w.heap.size w W → Calls Try.prog 9 #[zbv N A n c F] W fun e w' => e = .returned (.bool r) ∧ Below W.heap.size W w'))
    (HF : Hid (∀ W, r = true → ¬ many < 1 → Below w.heap.size w W → Calls Try.prog 36 #[zbv N A n c F, .int .i64 many] W fun y w' => y = .returned (.tuple #[.int .i64 x, .int .i64 e]) ∧ Below W.heap.size W w'))
    (P : (r = false ∧ x = 0 ∧ e = 1) ∨ (r = true ∧ many < 1 ∧ x = 0 ∧ e = 4) ∨ (r = true ∧ ¬ many < 1)) :
    Calls Try.prog 20 #[zbv N A n c F, .int .i64 many] w fun y w' => y = .returned (.tuple #[.int .i64 x, .int .i64 e]) ∧ Below w.heap.size w w' := by
  have HB := Lib.hid (zbox_below w N A n c F)
  have HK := Lib.hid (zbox_blk w N A n c F)
  rcases P with ⟨rfl, rfl, rfl⟩ | ⟨rfl, hm, rfl, rfl⟩ | ⟨rfl, hm⟩
  all_goals
    go_enter Try.func20, Try.ntmps20
    go_wp2_with fail
    refine (HR.out _ HB.out).mono ?_
    rintro e1 w1 ⟨rfl, hb1⟩
    have B1 := Lib.hid (bt HB.out hb1)
    have K1 := Lib.hid (HK.out.below hb1)
    clear hb1
    obtain ⟨⟨q0, q1, q2⟩, _⟩ := zcells K1.out
  · go_wp2
    go_ret2
    exact ⟨rfl, B1.out⟩
  · go_wp2
    go_ret2
    exact ⟨rfl, B1.out⟩
  · go_wp2_with fail
    refine (HF.out _ (by trivial) (by first | exact hm | omega) B1.out).mono ?_
    rintro e2 w2 ⟨rfl, hb2⟩
    go_wp2
    go_ret2
    exact ⟨rfl, bt B1.out hb2⟩

theorem find_bad (N : Int) (A : Option Addr) (n c F : Nat) (L : List Nat) (many : Int) (w : World) (hM : ZM w A n c L F) (hr : zright N L F = false) :
    Calls Try.prog 20 #[zbv N A n c F, .int .i64 many] w fun x w' => x = .returned (.tuple #[.int .i64 0, .int .i64 1]) ∧ Below w.heap.size w w' :=
  find_walk N A n c F many w false _ _ (Lib.hid fun W hb => by have := zright_any N A n c F L W (hM.later hb); rwa [hr] at this) (Lib.hid fun _ h => by cases h) (.inl ⟨rfl, rfl, rfl⟩)
theorem find_size (N : Int) (A : Option Addr) (n c F : Nat) (L : List Nat) (many : Int) (w : World) (hM : ZM w A n c L F) (hr : zright N L F = true) (hm : many < 1) :
    Calls Try.prog 20 #[zbv N A n c F, .int .i64 many] w fun x w' => x = .returned (.tuple #[.int .i64 0, .int .i64 4]) ∧ Below w.heap.size w w' :=
  find_walk N A n c F many w true _ _ (Lib.hid fun W hb => by have := zright_any N A n c F L W (hM.later hb); rwa [hr] at this) (Lib.hid fun _ _ h => absurd hm h) (.inr (.inl ⟨rfl, hm, rfl, rfl⟩))
/-- Find, of a map that may be. -/
theorem find_yes (k : Nat) (A : Option Addr) (n c F many : Nat) (L : List Nat) (w : World) (hM : ZM w A n c L F) (hr : ZR k L F) (hm1 : 1 ≤ many) (hm2 : (many : Int) ≤ 9223372036854775807) :
    Calls Try.prog 20 #[zbv (k : Int) A n c F, .int .i64 (many : Int)] w fun x w' => x = .returned (zfv (zfind k (ztk L) many)) ∧ Below w.heap.size w w' := by
  have h6 := hr.len64
  have hl := hM.len
  have HR : Hid (∀ W, Below w.heap.size w W → Calls Try.prog 9 #[zbv (k : Int) A n c F] W fun e w' => e = .returned (.bool true) ∧ Below W.heap.size W w') := Lib.hid fun W hb => by have := zright_any k A n c F L W (hM.later hb); rwa [zright_mk hr] at this
  have HF := Lib.hid (fun W (hb : Below w.heap.size w W) => first_walk k A n c F many L W (by omega) (by omega) hm1 hm2 (Lib.hid fun j hj => zfl_bit hr (by omega))
    (Lib.hid fun W2 j hj hb2 => isFull_any k A n c F j hM.flt hj W2) (Lib.hid fun W2 i hi hb2 => isTaken_any k A n c F L i W2 ((hM.later hb).later hb2) hi) (Lib.hid fun j W2 hj => lastOf_any j hj W2))
  cases hf : zfind k (ztk L) many with
  | none =>
    rw [hf] at HF
    exact find_walk k A n c F many w true 0 6 HR (Lib.hid fun W _ _ hb => HF.out W hb) (.inr (.inr ⟨rfl, by omega⟩))
  | some s =>
    rw [hf] at HF
    exact find_walk k A n c F many w true (s : Int) 0 HR (Lib.hid fun W _ _ hb => HF.out W hb) (.inr (.inr ⟨rfl, by omega⟩))

theorem alive_right : ZR 8 [18446744073709551369] 0 := by
  have h := (zright_iff (N := 8) (L := [18446744073709551369]) (F := 0)).1 (by decide +kernel)
  obtain ⟨n, hn, h⟩ := h
  obtain rfl : n = 8 := by omega
  exact h
theorem alive_found : zfind 8 (ztk [18446744073709551369]) 3 = some 4 := by decide +kernel

set_option maxRecDepth 100000 in
set_option maxHeartbeats 2000000 in
theorem balive_any (w : World) : Calls Try.prog 13 #[] w fun e w' => e = .returned (.bool true) ∧ Below w.heap.size w w' := by
  have KR : Blk ((w.alloc (.cells #[.int .u64 18446744073709551369] 23)).alloc (.cells #[.int .i64 8, .slice (some ⟨w.heap.size, 0, none⟩) 1 1, .int .u64 0] 25)) w.heap.size 23 (([18446744073709551369].map zq).toArray) := (Blk.new w _ _).alloc _
  have HM : Hid (ZM ((w.alloc (.cells #[.int .u64 18446744073709551369] 23)).alloc (.cells #[.int .i64 8, .slice (some ⟨w.heap.size, 0, none⟩) 1 1, .int .u64 0] 25)) (some ⟨w.heap.size, 0, none⟩) 1 1 [18446744073709551369] 0) := Lib.hid ⟨blk_ZRow KR, rfl, (fun e => by cases e), by omega, by omega, (fun x hx => by simp at hx; subst hx; decide), by decide⟩
  have HB : Hid (Below w.heap.size w ((w.alloc (.cells #[.int .u64 18446744073709551369] 23)).alloc (.cells #[.int .i64 8, .slice (some ⟨w.heap.size, 0, none⟩) 1 1, .int .u64 0] 25))) := Lib.hid (ba (ba (Below.refl _ _) _) _)
  have HF := Lib.hid (find_yes 8 (some ⟨w.heap.size, 0, none⟩) 1 1 0 3 [18446744073709551369] _ HM.out alive_right (by omega) (by omega))
  rw [alive_found] at HF
  clear KR HM
  go_enter Try.func13, Try.ntmps13
  go_wp2_with fail
  refine HF.out.mono ?_
  rintro e1 w1 ⟨rfl, hb1⟩
  unfold zfv
  go_wp2
  go_ret
  exact ⟨rfl, bt HB.out hb1⟩
end Go.Proofs.Ythknelpcdoebiaa
