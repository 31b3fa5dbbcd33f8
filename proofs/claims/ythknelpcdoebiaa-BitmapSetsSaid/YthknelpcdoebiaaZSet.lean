/- The contracts of Set. -/
import Derived.Test.YthknelpcdoebiaaZGetC
import Derived.Test.YthknelpcdoebiaaZEq
import Derived.StillTailTactics
namespace Go.Proofs.Ythknelpcdoebiaa
open Go.RowKit

abbrev zbox2 (w : World) (N : Int) (A : Option Addr) (n c F : Nat) : World := (zbox w N A n c F).alloc (.cells #[.int .i64 0, .slice none 0 0, .int .u64 0] 25)
theorem ZRowS.drew {W : World} {g n c : Nat} {T : List Nat} (h : ZRowS W g n c T) : ZRowS W.drew g n c T := h

set_option maxRecDepth 100000 in
set_option maxHeartbeats 2000000 in
theorem set_walk0 (N : Int) (A : Option Addr) (n c F : Nat) (i : Int) (b : Bool) (w : World) (r : Bool) (e : Int)
    (HR : Hid (∀ W, Below w.heap.size w W → Calls Try.prog 9 #[zbv N A n c F] W fun e w' => e = .returned (.bool r) ∧ Below W.heap.size W w'))
    (HP : Hid (∀ W, Below w.heap.size w W → r = true → Calls Try.prog 30 #[zbv N A n c F, .int .i64 i] W fun e w' => e = .returned (.bool false) ∧ Below W.heap.size W w'))
    (P : (r = false ∧ e = 1) ∨ (r = true ∧ e = 2)) :
    Calls Try.prog 15 #[zbv N A n c F, .int .i64 i, .bool b] w fun x w' => x = .returned (.tuple #[zbv 0 none 0 0 0, .int .i64 e]) ∧ Below w.heap.size w w' := by
  have HB : Hid (Below w.heap.size w (zbox2 w N A n c F)) := Lib.hid (ba (zbox_below w N A n c F) _)
  have HK : Hid (Blk (zbox2 w N A n c F) w.heap.size 25 (zcs N A n c F)) := Lib.hid ((zbox_blk w N A n c F).alloc _)
  have HO : Hid (Blk (zbox2 w N A n c F) (w.heap.size + 1) 25 #[.int .i64 0, .slice none 0 0, .int .u64 0]) := Lib.hid (Blk.newAt (by simp) _ _)
  rcases P with ⟨rfl, rfl⟩ | ⟨rfl, rfl⟩
  all_goals
    go_enter Try.func15, Try.ntmps15
    go_wp2_with fail
    refine (HR.out _ HB.out).mono ?_
    rintro e1 w1 ⟨rfl, hb1⟩
    have B1 := Lib.hid (bt HB.out hb1)
    have K1 := Lib.hid (HK.out.below hb1)
    have O1 := Lib.hid (HO.out.below hb1)
    clear hb1 HB HK HO
    obtain ⟨⟨q0, q1, q2⟩, _⟩ := zcells K1.out
  · obtain ⟨⟨o0, o1, o2⟩, f0, f1, f2⟩ := zcells O1.out
    go_wp2
    refine bodyPost_ret (map_result rfl (((O1.out.set_ 0 _).set_ 1 _).set_ 2 _)) rfl ?_
    exact ⟨rfl, bs (bs (bs B1.out (by omega) _) (by omega) _) (by omega) _⟩
  · go_wp2_with fail
    refine (HP.out _ B1.out (by trivial)).mono ?_
    rintro e2 w2 ⟨rfl, hb2⟩
    have B2 := Lib.hid (bt B1.out hb2)
    have O2 := Lib.hid (O1.out.below hb2)
    clear hb2 q0 q1 q2 O1 K1
    obtain ⟨⟨o0, o1, o2⟩, f0, f1, f2⟩ := zcells O2.out
    go_wp2
    refine bodyPost_ret (map_result rfl (((O2.out.set_ 0 _).set_ 1 _).set_ 2 _)) rfl ?_
    exact ⟨rfl, bs (bs (bs B2.out (by omega) _) (by omega) _) (by omega) _⟩

set_option maxRecDepth 100000 in
set_option maxHeartbeats 4000000 in
theorem set_walk (N : Int) (A : Option Addr) (n c F : Nat) (i k x y z f : Nat) (b : Bool) (L : List Nat) (w : World)
    (HR : Hid (∀ W, Below w.heap.size w W → Calls Try.prog 9 #[zbv N A n c F] W fun e w' => e = .returned (.bool true) ∧ Below W.heap.size W w'))
    (HP : Hid (∀ W, Below w.heap.size w W → Calls Try.prog 30 #[zbv N A n c F, .int .i64 (i : Int)] W fun e w' => e = .returned (.bool true) ∧ Below W.heap.size W w'))
    (HC : Hid (∀ W, Below w.heap.size w W → Calls Try.prog 31 #[.slice A n c] W fun e w' => ∃ A' c', e = .returned (.slice A' n c') ∧ w'.ownsRow W.heap.size 23 1 (.slice A' n c') n (L.map zq) ∧ Below W.heap.size W w'))
    (HY : Hid (∀ W, Calls Try.prog 32 #[.int .i64 (i : Int)] W fun e w' => e = .returned (zq y) ∧ W = w'))
    (HF : Hid (∀ W g c', ZRowS W g n c' (L.set k z) → Calls Try.prog 26 #[.slice (some ⟨g, 0, none⟩) n c'] W fun e w' => e = .returned (zq f) ∧ W = w'))
    (HL : Hid (1 ≤ n ∧ L.length = n)) (hx : L.getD k 0 = x) (hd : ((i : Int) / 64) = (k : Int)) (hk0 : (0 : Int) ≤ (k : Int)) (hk : (k : Int) < (n : Int)) (hw : IntKind.i64.wrap (k : Int) = (k : Int))
    (hz : (b = true ∧ bits .or .u64 (x : Int) (y : Int) = (z : Int)) ∨ (b = false ∧ bits .andNot .u64 (x : Int) (y : Int) = (z : Int))) :
    Calls Try.prog 15 #[zbv N A n c F, .int .i64 (i : Int), .bool b] w fun e w' => ∃ g c', e = .returned (.tuple #[zbv N (some ⟨g, 0, none⟩) n c' f, .int .i64 0]) ∧ ZRowS w' g n c' (L.set k z) ∧ w.heap.size < g ∧ Below w.heap.size w w' := by
  have HB : Hid (Below w.heap.size w (zbox2 w N A n c F)) := Lib.hid (ba (zbox_below w N A n c F) _)
  have HK : Hid (Blk (zbox2 w N A n c F) w.heap.size 25 (zcs N A n c F)) := Lib.hid ((zbox_blk w N A n c F).alloc _)
  have HO : Hid (Blk (zbox2 w N A n c F) (w.heap.size + 1) 25 #[.int .i64 0, .slice none 0 0, .int .u64 0]) := Lib.hid (Blk.newAt (by simp) _ _)
  have HX := Lib.hid hx
  clear hx
  rcases hz with ⟨rfl, hz⟩ | ⟨rfl, hz⟩
  all_goals
    go_enter Try.func15, Try.ntmps15
    go_wp2_with fail
    refine (HR.out _ HB.out).mono ?_
    rintro e1 w1 ⟨rfl, hb1⟩
    have B1 := Lib.hid (bt HB.out hb1)
    have K1 := Lib.hid (HK.out.below hb1)
    have O1 := Lib.hid (HO.out.below hb1)
    clear hb1 HB HK HO
    obtain ⟨⟨q0, q1, q2⟩, _⟩ := zcells K1.out
    go_wp2_with fail
    refine (HP.out _ B1.out).mono ?_
    rintro e2 w2 ⟨rfl, hb2⟩
    have B2 := Lib.hid (bt B1.out hb2)
    have K2 := Lib.hid (K1.out.below hb2)
    have O2 := Lib.hid (O1.out.below hb2)
    clear hb2 q0 q1 q2 O1 K1 B1
    obtain ⟨⟨q0, q1, q2⟩, _⟩ := zcells K2.out
    go_wp2_with fail
    refine (HC.out _ B2.out).mono ?_
    rintro e3 w3 ⟨A3, c3, rfl, hown, hb3⟩
    have B3 := Lib.hid (bt B2.out hb3)
    have K3 := Lib.hid (K2.out.below hb3)
    have O3 := Lib.hid (O2.out.below hb3)
    obtain ⟨g, rfl, hg, hrow⟩ := ZRowS.of_own hown HL.out.1 HL.out.2
    have hO2 := O2.out.lt
    have HG : Hid (w.heap.size + 1 < g) := Lib.hid (Nat.lt_of_lt_of_le hO2 hg)
    have HROW := Lib.hid hrow
    clear hb3 q0 q1 q2 O2 K2 B2 hown hrow hg hO2
    obtain ⟨x0, x1⟩ := HROW.out.cell k (by have := HL.out; omega)
    rw [HX.out] at x0
    go_wp2_with fail
    go_still_tail 9, (by kernel_rfl)
    refine wpStill_step (fun K hK => ?_)
    go_simp
    refine ⟨_, ((HY.out _).mono fun _ _ ⟨h, k⟩ => ⟨h, k.symm⟩), hK _ ?_⟩
    clear hK K
    repeat still_step
    refine wpStill_nil ?_
    change wpList _ _ _ _ _ w3.drew
    have B3 := Lib.hid B3.out.drew
    have K3 := Lib.hid K3.out.drew
    have O3 := Lib.hid O3.out.drew
    have HROW := Lib.hid HROW.out.drew
    clear x0 x1
    generalize w3.drew = w9 at B3 K3 O3 HROW ⊢
    obtain ⟨x0, x1⟩ := HROW.out.cell k (by have := HL.out; omega)
    have B4 := Lib.hid (bs B3.out (b := g) (o := k) (by have := HG.out; omega) (zq z))
    have K4 := Lib.hid (K3.out.far (p := ⟨g, k, none⟩) (by have := HG.out; simp; omega) (zq z))
    have O4 := Lib.hid (O3.out.far (p := ⟨g, k, none⟩) (by have := HG.out; simp; omega) (zq z))
    have R4 := Lib.hid (HROW.out.set_ k z)
    clear B3 K3 O3 HROW
    go_wp2_with fail
    generalize w9.setCell ⟨g, k, none⟩ (zq z) = w4 at B4 K4 O4 R4 ⊢
    obtain ⟨⟨q0, q1, q2⟩, _⟩ := zcells K4.out
    go_still_tail 6, (by kernel_rfl)
    refine wpStill_step (fun K hK => ?_)
    go_simp
    refine ⟨_, ((HF.out _ _ _ R4.out.drew).mono fun _ _ ⟨h, k⟩ => ⟨h, k.symm⟩), hK _ ?_⟩
    clear hK K
    repeat still_step
    refine wpStill_nil ?_
    change wpList _ _ _ _ _ w4.drew
    have B5 := Lib.hid B4.out.drew
    have O5 := Lib.hid O4.out.drew
    have R5 := Lib.hid R4.out.drew
    clear B4 K4 O4 R4 q0 q1 q2
    generalize w4.drew = w5 at B5 O5 R5 ⊢
    obtain ⟨⟨o0, o1, o2⟩, f0, f1, f2⟩ := zcells O5.out
    go_wp2
    refine bodyPost_ret (map_result rfl (((O5.out.set_ 0 _).set_ 1 _).set_ 2 _)) rfl ?_
    refine ⟨g, c3, rfl, ((R5.out.far (by have := HG.out; simp; omega) _).far (by have := HG.out; simp; omega) _).far (by have := HG.out; simp; omega) _, by have := HG.out; omega, bs (bs (bs B5.out (by omega) _) (by omega) _) (by omega) _⟩

theorem set_bad (N : Int) (A : Option Addr) (n c F : Nat) (L : List Nat) (i : Int) (b : Bool) (w : World) (hM : ZM w A n c L F) (hr : zright N L F = false) :
    Calls Try.prog 15 #[zbv N A n c F, .int .i64 i, .bool b] w fun x w' => x = .returned (.tuple #[zbv 0 none 0 0 0, .int .i64 1]) ∧ Below w.heap.size w w' :=
  set_walk0 N A n c F i b w false _ (Lib.hid fun W hb => by have := zright_any N A n c F L W (hM.later hb); rwa [hr] at this) (Lib.hid fun _ _ h => by cases h) (.inl ⟨rfl, rfl⟩)
theorem set_range (N : Int) (A : Option Addr) (n c F : Nat) (L : List Nat) (i : Int) (b : Bool) (w : World) (hM : ZM w A n c L F) (hr : zright N L F = true) (hi : ¬ (0 ≤ i ∧ i < N)) :
    Calls Try.prog 15 #[zbv N A n c F, .int .i64 i, .bool b] w fun x w' => x = .returned (.tuple #[zbv 0 none 0 0 0, .int .i64 2]) ∧ Below w.heap.size w w' := by
  have hp : (decide (0 ≤ i) && decide (i < N)) = false := by rw [Bool.and_eq_false_iff]; simp only [decide_eq_false_iff_not]; omega
  exact set_walk0 N A n c F i b w true _ (Lib.hid fun W hb => by have := zright_any N A n c F L W (hM.later hb); rwa [hr] at this) (Lib.hid fun W _ _ => by have := isPlace_any N A n c F i W; rwa [hp] at this) (.inr ⟨rfl, rfl⟩)
/-- A place of a map that may be, set: a row of its own. -/
theorem set_yes2 (k : Nat) (A : Option Addr) (n c F : Nat) (L : List Nat) (i : Nat) (b : Bool) (w : World) (hM : ZM w A n c L F) (hr : ZR k L F) (hi : i < k) :
    Calls Try.prog 15 #[zbv (k : Int) A n c F, .int .i64 (i : Int), .bool b] w fun x w' => ∃ g c', x = .returned (.tuple #[zbv (k : Int) (some ⟨g, 0, none⟩) n c' (zfl (zset L i b)), .int .i64 0]) ∧ ZM w' (some ⟨g, 0, none⟩) n c' (zset L i b) (zfl (zset L i b)) ∧ w.heap.size < g ∧ Below w.heap.size w w' := by
  have hp : (decide (0 ≤ (i : Int)) && decide ((i : Int) < (k : Int))) = true := by simp; omega
  have h6 := hr.len64
  have hl := hM.len
  have hx := getD_lt hM.lt (i / 64)
  have hj : i % 64 < 64 := Nat.mod_lt _ (by omega)
  have hy : 2 ^ (i % 64) < Z64 := by rw [z64]; exact Nat.pow_lt_pow_right (by omega) hj
  have hlt := zset_lt hM.lt i b
  have hsl := zset_len L i b
  have hfl : zfl (zset L i b) < Z64 := zfl_lt (by rw [hsl]; omega)
  have hz : (b = true ∧ bits .or .u64 ((L.getD (i / 64) 0 : Nat) : Int) ((2 ^ (i % 64) : Nat) : Int) = ((zput (L.getD (i / 64) 0) (i % 64) b : Nat) : Int)) ∨ (b = false ∧ bits .andNot .u64 ((L.getD (i / 64) 0 : Nat) : Int) ((2 ^ (i % 64) : Nat) : Int) = ((zput (L.getD (i / 64) 0) (i % 64) b : Nat) : Int)) := by
    cases b with
    | true => exact .inl ⟨rfl, by rw [zor_nat _ _ hx hy, zput_or hx hj]⟩
    | false => exact .inr ⟨rfl, by rw [zandNot_nat _ _ hx hy, zput_clear hx hj]⟩
  refine (set_walk k A n c F i (i / 64) (L.getD (i / 64) 0) (2 ^ (i % 64)) (zput (L.getD (i / 64) 0) (i % 64) b) (zfl (zset L i b)) b L w
    (Lib.hid fun W hb => by have := zright_any k A n c F L W (hM.later hb); rwa [zright_mk hr] at this)
    (Lib.hid fun W _ => by have := isPlace_any k A n c F i W; rwa [hp] at this)
    (Lib.hid fun W hb => zclone_any A c n L W (hM.row.later hb) hl hM.nil (by omega))
    (Lib.hid fun W => placeBit_any i W)
    (Lib.hid fun W g c' hR => fullOf_any (some ⟨g, 0, none⟩) n c' _ W hR.row (by first | (rw [zset_len]; exact hl) | (rw [List.length_set]; exact hl)) (by omega))
    (Lib.hid ⟨by omega, hl⟩) rfl (by omega) (by omega) (by omega) (by rw [IntKind.wrap_i64]; omega) hz).mono ?_
  rintro e w' ⟨g, c', rfl, hR, hg, hb⟩
  exact ⟨_, _, rfl, hR.zm (by omega) hlt hfl, hg, hb⟩
/-- .. -/
theorem set_yes (k : Nat) (A : Option Addr) (n c F : Nat) (L : List Nat) (i : Nat) (b : Bool) (w : World) (hM : ZM w A n c L F) (hr : ZR k L F) (hi : i < k) :
    Calls Try.prog 15 #[zbv (k : Int) A n c F, .int .i64 (i : Int), .bool b] w fun x w' => ∃ A' c', x = .returned (.tuple #[zbv (k : Int) A' n c' (zfl (zset L i b)), .int .i64 0]) ∧ ZM w' A' n c' (zset L i b) (zfl (zset L i b)) ∧ Below w.heap.size w w' := by
  refine (set_yes2 k A n c F L i b w hM hr hi).mono ?_
  rintro e w' ⟨g, c', rfl, h1, _, hb⟩
  exact ⟨_, _, rfl, h1, hb⟩
end Go.Proofs.Ythknelpcdoebiaa
