/- Texts of this seat, one behind the other: WMath, WRule, WNonce, WSeal, WOpen, WLaw, WRef. -/
import Derived.Test.YtcecjoodlmpgnaaGreatQ01
import Derived.Test.YtcecjoodlmpgnaaGreatQ02
import Derived.Test.YtcecjoodlmpgnaaGreatQ03
import Derived.Test.YtcecjoodlmpgnaaGreatQ11
import Derived.Test.YtcecjoodlmpgnaaGreatQ12
import Derived.Test.YtcecjoodlmpgnaaGreatQ20
import Derived.Test.YtcecjoodlmpgnaaGreatQ23
/- Sectors' texts, in plain lists: nothing of the program. -/
namespace Go.Proofs.YtcecjoodlmpgnaaGreat

theorem low_take (n k m : Nat) (h : k ≤ m) : (low n m).take k = low n k := by
  induction m generalizing n k with
  | zero => obtain rfl : k = 0 := by omega
            rfl
  | succ m ih =>
    cases k with
    | zero => rfl
    | succ k => simp only [low, List.take_succ_cons]; rw [ih _ _ (by omega)]
/-- A sector's and a generation's nonce. -/
def wnonce (a g : Nat) : List UInt8 := low a 4 ++ low g 8
/-- What is bound. -/
def whead (kind logical size : Nat) : List UInt8 := low kind 8 ++ low logical 8 ++ low size 8
/-- A sector's text. -/
def wseal (E : List UInt8 → List UInt8) (kind a g logical : Nat) (data : List UInt8) : List UInt8 := low g 8 ++ sealL E (wnonce a g) (whead kind logical data.length) data
/-- The generation and the data that a text tells. -/
def wopen (E : List UInt8 → List UInt8) (kind a logical : Nat) (s : List UInt8) : Option (Nat × List UInt8) :=
  if 24 ≤ s.length ∧ s.length ≤ 88 then (openL E (wnonce a (val (s.take 8))) (whead kind logical (s.length - 24)) (s.drop 8)).map fun t => (val (s.take 8), t) else none
theorem wnonce_len (a g : Nat) : (wnonce a g).length = 12 := by simp [wnonce, low_length]
theorem whead_len (k l n : Nat) : (whead k l n).length = 24 := by simp [whead, low_length]
section
variable {E : List UInt8 → List UInt8} {kind a logical : Nat}
theorem wseal_len (g : Nat) (data : List UInt8) : (wseal E kind a g logical data).length = data.length + 24 := by
  unfold wseal
  rw [List.length_append, low_length, sealL_len]
  omega
theorem wnonce_inj {a b g h : Nat} (ha : a < 4294967296) (hb : b < 4294967296) (hg : g < 18446744073709551616) (hh : h < 18446744073709551616) : wnonce a g = wnonce b h ↔ a = b ∧ g = h := by
  constructor
  · intro e
    obtain ⟨e1, e2⟩ := List.append_inj e (by rw [low_length, low_length])
    exact ⟨low_inj (k := 4) (by omega) (by omega) e1, low_inj (k := 8) (by omega) (by omega) e2⟩
  · rintro ⟨rfl, rfl⟩; rfl
theorem wopen_seal {g : Nat} (hg : g < 18446744073709551616) {data : List UInt8} (hd : data.length ≤ 64) : wopen E kind a logical (wseal E kind a g logical data) = some (g, data) := by
  have hl := wseal_len (E := E) (kind := kind) (a := a) (logical := logical) g data
  have h8 : (wseal E kind a g logical data).take 8 = low g 8 := by unfold wseal; rw [List.take_left' (low_length _ _)]
  have hd8 : (wseal E kind a g logical data).drop 8 = sealL E (wnonce a g) (whead kind logical data.length) data := by unfold wseal; rw [List.drop_left' (low_length _ _)]
  unfold wopen
  rw [if_pos ⟨by omega, by omega⟩, h8, hd8, hl, val_low, Nat.mod_eq_of_lt (by omega), Nat.add_sub_cancel, open_seal]
  rfl
theorem wseal_open {s t : List UInt8} {g : Nat} (h : wopen E kind a logical s = some (g, t)) : wseal E kind a g logical t = s ∧ g < 18446744073709551616 ∧ t.length ≤ 64 ∧ 24 ≤ s.length ∧ s.length ≤ 88 := by
  unfold wopen at h
  by_cases hs : 24 ≤ s.length ∧ s.length ≤ 88
  · rw [if_pos hs, Option.map_eq_some_iff] at h
    obtain ⟨u, hu, e⟩ := h
    have l8 : (s.take 8).length = 8 := by rw [List.length_take]; omega
    obtain ⟨rfl, rfl⟩ := Prod.mk.inj e
    have hl := open_len hu
    have hso := seal_open hu
    rw [List.length_drop] at hl
    have hlow := low_val (s.take 8)
    rw [l8] at hlow
    have hlt := val_lt (s.take 8)
    rw [l8] at hlt
    refine ⟨?_, by omega, by omega, hs.1, hs.2⟩
    unfold wseal
    rw [hlow, show u.length = s.length - 24 by omega, hso, List.take_append_drop]
  · rw [if_neg hs] at h; cases h
end
/-- The first rule that is not kept: its why; 0 if all are. -/
def refuse : List (Bool × Int) → Int
  | [] => 0
  | x :: l => if x.1 then refuse l else x.2
/-- May a sector's number be? -/
def atB (n : Int) : Bool := decide (0 ≤ n) && decide (n < 64)
/-- May a kind be? -/
def kindB (n : Int) : Bool := decide (0 ≤ n) && decide (n ≤ 2)
end Go.Proofs.YtcecjoodlmpgnaaGreat
/- The contracts of isSector, isKind, isKey and refusal. -/
namespace Go.Proofs.YtcecjoodlmpgnaaGreat
open Go.RowKit

set_option maxRecDepth 100000 in
set_option maxHeartbeats 1000000 in
theorem isSector_any (n : Int) (w : World) : Calls Tryz.prog 16 #[.int .i64 n] w fun e w' => e = .returned (.bool (atB n)) ∧ w = w' := by
  unfold atB
  by_cases h0 : 0 ≤ n
  · rw [decide_eq_true h0, Bool.true_and]
    go_enter Tryz.func16, Tryz.ntmps16
    go_wp2
    go_ret
    exact ⟨rfl, rfl⟩
  · rw [decide_eq_false h0, Bool.false_and]
    go_enter Tryz.func16, Tryz.ntmps16
    go_wp2
    go_ret
    exact ⟨rfl, rfl⟩

set_option maxRecDepth 100000 in
set_option maxHeartbeats 1000000 in
theorem isKind_any (n : Int) (w : World) : Calls Tryz.prog 18 #[.int .i64 n] w fun e w' => e = .returned (.bool (kindB n)) ∧ w = w' := by
  by_cases h0 : n = 0
  · subst h0
    go_enter Tryz.func18, Tryz.ntmps18
    go_wp2
    go_ret
    exact ⟨rfl, rfl⟩
  · have e0 : (n == 0) = false := by simp; omega
    by_cases h1 : n = 1
    · subst h1
      go_enter Tryz.func18, Tryz.ntmps18
      go_wp2
      go_ret
      exact ⟨rfl, rfl⟩
    · have e1 : (n == 1) = false := by simp; omega
      have e2 : (n == 2) = kindB n := by rw [Bool.eq_iff_iff]; simp [kindB]; omega
      generalize kindB n = B at e2 ⊢
      clear h0 h1
      go_enter Tryz.func18, Tryz.ntmps18
      go_wp2
      go_ret
      exact ⟨rfl, rfl⟩

set_option maxRecDepth 100000 in
set_option maxHeartbeats 1000000 in
theorem wisKey_any (k : List UInt8) (w : World) (hk : (k.length : Int) ≤ 9223372036854775807) :
    Calls Tryz.prog 19 #[.string ⟨k.toArray⟩] w fun e w' => e = .returned (.bool (keyB k)) ∧ w = w' := by
  have hz := size_mk k
  unfold keyB
  obtain ⟨n, hn⟩ : ∃ n, k.length = n := ⟨_, rfl⟩
  rw [hn] at hz hk ⊢
  by_cases h1 : n = 16
  · subst h1
    go_enter Tryz.func19, Tryz.ntmps19
    go_wp2
    go_ret
    exact ⟨rfl, rfl⟩
  · have e1 : ((n : Int) == 16) = false := by simp; omega
    have e2 : ((n : Int) == 32) = (n == 32) := by rw [Bool.eq_iff_iff]; simp; omega
    have e3 : (n == 16) = false := by simp; omega
    rw [e3, Bool.false_or]
    clear h1
    go_enter Tryz.func19, Tryz.ntmps19
    go_wp2
    go_ret
    exact ⟨by simp, rfl⟩

/-- Rules in cells. -/
def rcells (L : List (Bool × Int)) : List Value := L.flatMap fun x => [.bool x.1, .int .i64 x.2]
theorem rcells_at (L : List (Bool × Int)) (j : Nat) (h : j < L.length) : (rcells L)[j * 2]? = some (.bool L[j].1) ∧ (rcells L)[j * 2 + 1]? = some (.int .i64 L[j].2) := by
  induction L generalizing j with
  | nil => exact absurd h (Nat.not_lt_zero j)
  | cons x L ih =>
    have e : rcells (x :: L) = [.bool x.1, .int .i64 x.2] ++ rcells L := by simp [rcells]
    cases j with
    | zero => rw [e]; simp
    | succ j =>
      have h' : j < L.length := by simpa using h
      obtain ⟨h0, h1⟩ := ih j h'
      rw [e]
      refine ⟨?_, ?_⟩
      · rw [List.getElem?_append_right (by simp; omega), show (j + 1) * 2 - _ = j * 2 by simp; omega]; exact h0
      · rw [List.getElem?_append_right (by simp; omega), show (j + 1) * 2 + 1 - _ = j * 2 + 1 by simp; omega]; exact h1
theorem refuse_step {L : List (Bool × Int)} {k : Nat} {R : Int} (hk : k < L.length) (h : refuse (L.drop k) = R) : if L[k].1 then refuse (L.drop (k + 1)) = R else L[k].2 = R := by
  rw [List.drop_eq_getElem_cons hk, refuse] at h
  split <;> simp_all

set_option maxRecDepth 100000 in
set_option maxHeartbeats 1000000 in
theorem refusal_any (L : List (Bool × Int)) (g : Nat) (w : World) (R : Int) (hR : refuse L = R) (h : Blk w g 43 (rcells L).toArray) (hL : L.length ≤ 64) :
    Calls Tryz.prog 15 #[.slice (some ⟨g, 0, none⟩) L.length L.length] w fun e w' => e = .returned (.int .i64 R) ∧ Below w.heap.size w w' := by
  have HB := Lib.hid h
  have HR := Lib.hid hR
  clear h hR
  go_enter Tryz.func15, Tryz.ntmps15
  go_wp2_with fail
  go_loopw [7] (fun iv wr => ∃ k : Nat, k ≤ L.length ∧ iv = .int .i64 k ∧ Hid (refuse (L.drop k) = R) ∧ Below w.heap.size w wr) (fun i _ => L.length - (intOf i).toNat)
  case atStart => exact ⟨0, Nat.zero_le _, rfl, HR, Below.refl _ _⟩
  case round =>
    obtain ⟨k, hk, rfl, HS, hb⟩ := hrel
    by_cases hlt : k < L.length
    · have hst := refuse_step hlt HS.out
      obtain ⟨x0, x1⟩ := rcells_at L k hlt
      have hB := HB.out.below hb
      have c0 := hB.cell (k * 2)
      have c1 := hB.cell (k * 2 + 1)
      rw [List.getElem?_toArray, x0] at c0
      rw [List.getElem?_toArray, x1] at c1
      obtain ⟨⟨b, c⟩, hxx⟩ : ∃ x, L[k] = x := ⟨_, rfl⟩
      rw [hxx] at c0 c1 hst
      clear hxx x0 x1 hB
      cases b
      · simp only [Bool.false_eq_true, if_false] at hst c0 c1
        subst hst
        go_wp2
        go_ret
        exact ⟨rfl, ba hb _⟩
      · simp only [if_true] at hst c0 c1
        have HS1 := Lib.hid hst
        clear hst
        go_wp2
        exact ⟨⟨k + 1, by omega, by go_num, HS1, ba hb _⟩, by simp [intOf]; omega⟩
    · obtain rfl : k = L.length := by omega
      have hst := HS.out
      rw [List.drop_length, refuse] at hst
      subst hst
      go_wp2
      go_ret
      exact ⟨rfl, hb⟩
theorem refusal_one (b : Bool) (c : Int) (g : Nat) (w : World) (h : Blk w g 43 #[.bool b, .int .i64 c]) :
    Calls Tryz.prog 15 #[.slice (some ⟨g, 0, none⟩) 1 1] w fun e w' => e = .returned (.int .i64 (refuse [(b, c)])) ∧ Below w.heap.size w w' :=
  refusal_any [(b, c)] g w _ rfl h (by simp)
theorem refusal_four (b0 b1 b2 b3 : Bool) (c0 c1 c2 c3 : Int) (g : Nat) (w : World) (h : Blk w g 43 #[.bool b0, .int .i64 c0, .bool b1, .int .i64 c1, .bool b2, .int .i64 c2, .bool b3, .int .i64 c3]) :
    Calls Tryz.prog 15 #[.slice (some ⟨g, 0, none⟩) 4 4] w fun e w' => e = .returned (.int .i64 (refuse [(b0, c0), (b1, c1), (b2, c2), (b3, c3)])) ∧ Below w.heap.size w w' :=
  refusal_any [(b0, c0), (b1, c1), (b2, c2), (b3, c3)] g w _ rfl h (by simp)
end Go.Proofs.YtcecjoodlmpgnaaGreat
/- The contracts of nonceOf, headOf and generation. -/
namespace Go.Proofs.YtcecjoodlmpgnaaGreat
open Go.RowKit

set_option maxRecDepth 100000 in
set_option maxHeartbeats 1000000 in
theorem nonceOf_any (a g : Nat) (w : World) (ha : a ≤ 63) (hg : (g : Int) ≤ 18446744073709551615) :
    Calls Tryz.prog 17 #[.int .i64 (a : Int), .int .u64 (g : Int)] w fun e w' => e = .returned (.string ⟨(wnonce a g).toArray⟩) ∧ Below w.heap.size w w' := by
  have HA := Lib.hid (fun W => number_any a W (by omega))
  have HG := Lib.hid (fun W => number_any g W hg)
  have hx := kextract (low a 8) 0 4
  rw [List.drop_zero, low_take a 4 8 (by omega)] at hx
  have hz := size_of (low a 8)
  rw [low_length] at hz
  have had := fun (W : World) => run_string_add_lists (P := Tryz.prog) W (low a 4) (low g 8) (by rw [low_length]; omega) (by rw [low_length]; omega)
  rw [show low a 4 ++ low g 8 = wnonce a g from rfl] at had
  generalize wnonce a g = R at had ⊢
  generalize low a 4 = A4 at hx had
  generalize low a 8 = A8 at HA hx hz
  generalize low g 8 = G8 at HG had
  have a0 : (0 : Int) ≤ (a : Int) := by omega
  have a1 : (a : Int) ≤ 63 := by omega
  have aw : IntKind.u64.wrap (a : Int) = (a : Int) := by rw [IntKind.wrap_u64]; omega
  clear hg
  go_enter Tryz.func17, Tryz.ntmps17
  go_wp2_with fail
  have hS0 : Below w.heap.size w w.drew := (Below.refl _ w).drew
  go_region_held3 (fun W => Below w.heap.size w W) (first | assumption | exact hS0 | exact Below.refl _ _) (first
    | (go_at_call 22; (with_reducible refine (HA.out _).mono ?_); rintro e w5 ⟨rfl, hb5⟩; have hB5 := bt (by assumption : Below w.heap.size w _) hb5)
    | (go_at_call 22; (with_reducible refine (HG.out _).mono ?_); rintro e w6 ⟨rfl, hb6⟩; have hB6 := bt (by assumption : Below w.heap.size w _) hb6))
  all_goals (go_wp2_with fail; go_ret; exact ⟨rfl, by assumption⟩)

set_option maxRecDepth 100000 in
set_option maxHeartbeats 1000000 in
theorem headOf_any (k l n : Nat) (w : World) (hk : k ≤ 2) (hl : (l : Int) ≤ 18446744073709551615) (hn : n ≤ 64) :
    Calls Tryz.prog 21 #[.int .i64 (k : Int), .int .u64 (l : Int), .int .i64 (n : Int)] w fun e w' => e = .returned (.string ⟨(whead k l n).toArray⟩) ∧ Below w.heap.size w w' := by
  have HK := Lib.hid (fun W => number_any k W (by omega))
  have HL := Lib.hid (fun W => number_any l W hl)
  have HN := Lib.hid (fun W => number_any n W (by omega))
  have had := fun (W : World) => run_string_add_lists (P := Tryz.prog) W (low k 8) (low l 8) (by rw [low_length]; omega) (by rw [low_length]; omega)
  have had2 := fun (W : World) => run_string_add_lists (P := Tryz.prog) W (low k 8 ++ low l 8) (low n 8) (by rw [List.length_append, low_length, low_length]; omega) (by rw [low_length]; omega)
  rw [show low k 8 ++ low l 8 ++ low n 8 = whead k l n from rfl] at had2
  generalize whead k l n = R at had2 ⊢
  generalize low k 8 ++ low l 8 = KL at had had2
  generalize low k 8 = K8 at HK had
  generalize low l 8 = L8 at HL had
  generalize low n 8 = N8 at HN had2
  have k0 : (0 : Int) ≤ (k : Int) := by omega
  have k1 : (k : Int) ≤ 2 := by omega
  have n0 : (0 : Int) ≤ (n : Int) := by omega
  have n1 : (n : Int) ≤ 64 := by omega
  have kw : IntKind.u64.wrap (k : Int) = (k : Int) := by rw [IntKind.wrap_u64]; omega
  have nw : IntKind.u64.wrap (n : Int) = (n : Int) := by rw [IntKind.wrap_u64]; omega
  clear hl
  go_enter Tryz.func21, Tryz.ntmps21
  go_wp2_with fail
  refine (HK.out _).mono ?_
  rintro e w1 ⟨rfl, hb1⟩
  go_wp2_with fail
  refine (HL.out _).mono ?_
  rintro e w2 ⟨rfl, hb2⟩
  go_wp2_with fail
  refine (HN.out _).mono ?_
  rintro e w3 ⟨rfl, hb3⟩
  go_wp2_with fail
  go_ret
  exact ⟨rfl, bt (bt hb1 hb2) hb3⟩

theorem split_eight (s : List UInt8) (h : s.length = 8) : splitGo s [110] 0 [] = ([(false, val s, [])], 0, 0) := by
  have hp : part s 0 8 = s := by unfold part; rw [List.drop_zero, List.take_of_length_le (by omega)]
  have hz : fsz s 0 110 = some 8 := by simp [fsz, h]
  have hf : fldAt s 0 110 = (false, val s, []) := by simp [fldAt, hp]
  rw [splitGo, hz]
  simp only [splitGo, hf, h]
  simp

set_option maxRecDepth 100000 in
set_option maxHeartbeats 1000000 in
theorem generation_any (s : List UInt8) (w : World) (hs : s.length = 8) :
    Calls Tryz.prog 26 #[.string ⟨s.toArray⟩] w fun e w' => e = .returned (.int .u64 (val s : Int)) ∧ Below w.heap.size w w' := by
  have HS : Hid (∀ W, Calls Tryz.prog 41 #[.string ⟨s.toArray⟩, .string ⟨#[110]⟩] W (SplitPost W ([(false, val s, [])], 0, 0))) := Lib.hid fun W =>
    split_ok s [110] W _ (split_eight s hs) (fun k hk => by simp at hk; exact .inl hk) (by decide) (by omega)
  generalize val s = n at HS ⊢
  clear hs
  go_enter Tryz.func26, Tryz.ntmps26
  go_wp2_with fail
  refine (HS.out _).mono ?_
  rintro e w1 ⟨A, cap, rfl, hF, hc, hb1⟩
  obtain ⟨g, off, rfl, c0, c1, c2⟩ := hF 0 (by simp)
  simp only [List.getElem_cons_zero] at c0 c1 c2
  go_wp2_with fail
  go_ret
  exact ⟨rfl, hb1⟩
end Go.Proofs.YtcecjoodlmpgnaaGreat
/- The contracts of Nonce and Seal. -/
namespace Go.Proofs.YtcecjoodlmpgnaaGreat
open Go.RowKit

set_option maxRecDepth 100000 in
set_option maxHeartbeats 1000000 in
theorem wnonce_no (a : Int) (g : Nat) (w : World) (ha : atB a = false) :
    Calls Tryz.prog 6 #[.int .i64 a, .int .u64 (g : Int)] w fun e w' => e = .returned (.tuple #[.string ⟨#[]⟩, .int .i64 1]) ∧ Below w.heap.size w w' := by
  have HS := Lib.hid (fun W => isSector_any a W)
  rw [ha] at HS
  clear ha
  have HB := Lib.hid (Blk.new w 43 #[.bool false, .int .i64 1])
  go_enter Tryz.func6, Tryz.ntmps6
  go_wp2_with fail
  refine (HS.out _).mono ?_
  rintro e w1 ⟨rfl, rfl⟩
  go_wp2_with fail
  refine (refusal_one false 1 _ _ HB.out).mono ?_
  rintro e w2 ⟨rfl, hb2⟩
  have hb2 := bt (ba (Below.refl _ _) _) hb2
  rw [show refuse [(false, 1)] = 1 from rfl]
  go_wp2_with fail
  go_ret2
  exact ⟨rfl, hb2⟩

set_option maxRecDepth 100000 in
set_option maxHeartbeats 1000000 in
theorem wnonce_yes (a g : Nat) (w : World) (ha : a ≤ 63) (hg : (g : Int) ≤ 18446744073709551615) :
    Calls Tryz.prog 6 #[.int .i64 (a : Int), .int .u64 (g : Int)] w fun e w' => e = .returned (.tuple #[.string ⟨(wnonce a g).toArray⟩, .int .i64 0]) ∧ Below w.heap.size w w' := by
  have HS := Lib.hid (fun W => isSector_any a W)
  rw [show atB (a : Int) = true by simp [atB]; omega] at HS
  have HN := Lib.hid (fun W => nonceOf_any a g W ha hg)
  generalize wnonce a g = R at HN ⊢
  clear ha hg
  have HB := Lib.hid (Blk.new w 43 #[.bool true, .int .i64 1])
  go_enter Tryz.func6, Tryz.ntmps6
  go_wp2_with fail
  refine (HS.out _).mono ?_
  rintro e w1 ⟨rfl, rfl⟩
  go_wp2_with fail
  refine (refusal_one true 1 _ _ HB.out).mono ?_
  rintro e w2 ⟨rfl, hb2⟩
  have hb2 := bt (ba (Below.refl _ _) _) hb2
  rw [show refuse [(true, 1)] = 0 from rfl]
  go_wp2_with fail
  refine (HN.out _).mono ?_
  rintro e w3 ⟨rfl, hb3⟩
  go_wp2_with fail
  go_ret2
  exact ⟨rfl, bt hb2 hb3⟩

set_option maxRecDepth 100000 in
set_option maxHeartbeats 1000000 in
theorem wseal_no (k d : List UInt8) (kind a : Int) (g l : Nat) (w : World) (R : Int) (hk : (k.length : Int) ≤ 9223372036854775807)
    (hR : refuse [(atB a, 1), (kindB kind, 1), (keyB k, 4), (decide ((d.length : Int) ≤ 64), 4)] = R) (h0 : (R != 0) = true) :
    Calls Tryz.prog 7 #[.string ⟨k.toArray⟩, .int .i64 kind, .int .i64 a, .int .u64 (g : Int), .int .u64 (l : Int), .string ⟨d.toArray⟩] w fun e w' => e = .returned (.tuple #[.string ⟨#[]⟩, .int .i64 R]) ∧ Below w.heap.size w w' := by
  have HS := Lib.hid (fun W => isSector_any a W)
  have HK := Lib.hid (fun W => isKind_any kind W)
  have HY := Lib.hid (fun W => wisKey_any k W hk)
  have hz := size_of d
  obtain ⟨n, hn⟩ : ∃ n, d.length = n := ⟨_, rfl⟩
  rw [hn] at hz hR
  generalize atB a = b0 at HS hR
  generalize kindB kind = b1 at HK hR
  generalize keyB k = b2 at HY hR
  have HB : Hid (∀ b3 : Bool, b3 = decide ((n : Int) ≤ 64) → Calls Tryz.prog 15 #[.slice (some ⟨w.heap.size, 0, none⟩) 4 4] (w.alloc (.cells #[.bool b0, .int .i64 1, .bool b1, .int .i64 1, .bool b2, .int .i64 4, .bool b3, .int .i64 4] 43)) fun e w' => e = .returned (.int .i64 R) ∧ Below w.heap.size w w') := Lib.hid fun b3 h3 =>
    (refusal_four b0 b1 b2 b3 1 1 4 4 _ _ (Blk.new w _ _)).mono fun e w' h => ⟨by rw [← hR, ← h3]; exact h.1, bt (ba (Below.refl _ _) _) h.2⟩
  have HB := Lib.hid (HB.out _ rfl)
  clear hR hn hk
  go_enter Tryz.func7, Tryz.ntmps7
  go_wp2_with fail
  refine (HS.out _).mono ?_
  rintro e w1 ⟨rfl, rfl⟩
  go_wp2_with fail
  refine (HK.out _).mono ?_
  rintro e w2 ⟨rfl, rfl⟩
  go_wp2_with fail
  refine (HY.out _).mono ?_
  rintro e w3 ⟨rfl, rfl⟩
  go_wp2_with fail
  refine HB.out.mono ?_
  rintro e w4 ⟨rfl, hb4⟩
  go_wp2_with fail
  go_ret2
  exact ⟨rfl, hb4⟩

set_option maxRecDepth 100000 in
set_option maxHeartbeats 1000000 in
theorem wseal_yes (k d : List UInt8) (kind a g l : Nat) (w : World) (hk : k.length = 16 ∨ k.length = 32) (hd : d.length ≤ 64) (ha : a ≤ 63) (hi : kind ≤ 2) (hg : (g : Int) ≤ 18446744073709551615) (hl : (l : Int) ≤ 18446744073709551615) :
    Calls Tryz.prog 7 #[.string ⟨k.toArray⟩, .int .i64 (kind : Int), .int .i64 (a : Int), .int .u64 (g : Int), .int .u64 (l : Int), .string ⟨d.toArray⟩] w fun e w' => e = .returned (.tuple #[.string ⟨(wseal (encL k) kind a g l d).toArray⟩, .int .i64 0]) ∧ Below w.heap.size w w' := by
  have HS := Lib.hid (fun W => isSector_any a W)
  have HK := Lib.hid (fun W => isKind_any kind W)
  have HY := Lib.hid (fun W => wisKey_any k W (by omega))
  rw [show atB (a : Int) = true by simp [atB]; omega] at HS
  rw [show kindB (kind : Int) = true by simp [kindB]; omega] at HK
  rw [show keyB k = true by simp [keyB]; omega] at HY
  have HN := Lib.hid (fun W => nonceOf_any a g W ha hg)
  have HH := Lib.hid (fun W => headOf_any kind l d.length W hi hl hd)
  have HE := Lib.hid (fun W => seal_yes k (wnonce a g) (whead kind l d.length) d W (by simp [kfit, wnonce_len]; exact hk) (by rw [whead_len]; omega) (by omega))
  have HG := Lib.hid (fun W => number_any g W hg)
  have had := fun (W : World) => run_string_add_lists (P := Tryz.prog) W (low g 8) (sealL (encL k) (wnonce a g) (whead kind l d.length) d) (by rw [low_length]; omega) (by rw [sealL_len]; omega)
  rw [show low g 8 ++ sealL (encL k) (wnonce a g) (whead kind l d.length) d = wseal (encL k) kind a g l d from rfl] at had
  have hz := size_of d
  generalize wseal (encL k) kind a g l d = R at had ⊢
  generalize sealL (encL k) (wnonce a g) (whead kind l d.length) d = S at HE had
  generalize wnonce a g = N at HN HE
  obtain ⟨n, hn⟩ : ∃ n, d.length = n := ⟨_, rfl⟩
  rw [hn] at hz hd HH HE
  generalize whead kind l n = H at HH HE
  generalize low g 8 = G at HG had
  have n1 : (n : Int) ≤ 64 := by omega
  have HB : Hid (Calls Tryz.prog 15 #[.slice (some ⟨w.heap.size, 0, none⟩) 4 4] (w.alloc (.cells #[.bool true, .int .i64 1, .bool true, .int .i64 1, .bool true, .int .i64 4, .bool true, .int .i64 4] 43)) fun e w' => e = .returned (.int .i64 0) ∧ Below w.heap.size w w') :=
    Lib.hid ((refusal_four true true true true 1 1 4 4 _ _ (Blk.new w _ _)).mono fun e w' h => ⟨h.1, bt (ba (Below.refl _ _) _) h.2⟩)
  clear hn hk ha hi hg hl hd
  go_enter Tryz.func7, Tryz.ntmps7
  go_wp2_with fail
  refine (HS.out _).mono ?_
  rintro e w1 ⟨rfl, rfl⟩
  go_wp2_with fail
  refine (HK.out _).mono ?_
  rintro e w2 ⟨rfl, rfl⟩
  go_wp2_with fail
  refine (HY.out _).mono ?_
  rintro e w3 ⟨rfl, rfl⟩
  go_wp2_with fail
  refine HB.out.mono ?_
  rintro e w4 ⟨rfl, hb4⟩
  go_wp2_with fail
  refine (HN.out _).mono ?_
  rintro e w5 ⟨rfl, hb5⟩
  have hb5 := bt hb4 hb5
  go_wp2_with fail
  refine (HH.out _).mono ?_
  rintro e w6 ⟨rfl, hb6⟩
  have hb6 := bt hb5 hb6
  go_wp2_with fail
  refine (HE.out _).mono ?_
  rintro e w7 ⟨rfl, hb7⟩
  have hb7 := bt hb6 hb7
  go_wp2_with fail
  refine (HG.out _).mono ?_
  rintro e w8 ⟨rfl, hb8⟩
  have hb8 := bt hb7 hb8
  clear hb4 hb5 hb6 hb7
  go_wp2_with fail
  go_ret2
  exact ⟨rfl, hb8⟩
end Go.Proofs.YtcecjoodlmpgnaaGreat
/- The contract of Open. -/
namespace Go.Proofs.YtcecjoodlmpgnaaGreat
open Go.RowKit

/-- What Open tells. -/
def wopenR (o : Option (Nat × List UInt8)) : Value := .tuple #[.int .u64 ((o.getD (0, [])).1 : Int), .string ⟨(o.getD (0, [])).2.toArray⟩, .int .i64 (if o.isSome then 0 else 5)]

set_option maxRecDepth 100000 in
set_option maxHeartbeats 1000000 in
theorem wopen_no (k s : List UInt8) (kind a : Int) (l : Nat) (w : World) (R : Int) (hk : (k.length : Int) ≤ 9223372036854775807) (hs : (s.length : Int) ≤ 9223372036854775807)
    (hR : ∀ b3 : Bool, (24 ≤ s.length ∧ s.length ≤ 88 → b3 = true) → (¬ (24 ≤ s.length ∧ s.length ≤ 88) → b3 = false) → refuse [(atB a, 1), (kindB kind, 1), (keyB k, 4), (b3, 5)] = R) (h0 : (R != 0) = true) :
    Calls Tryz.prog 13 #[.string ⟨k.toArray⟩, .int .i64 kind, .int .i64 a, .int .u64 (l : Int), .string ⟨s.toArray⟩] w fun e w' => e = .returned (.tuple #[.int .u64 0, .string ⟨#[]⟩, .int .i64 R]) ∧ Below w.heap.size w w' := by
  have HS := Lib.hid (fun W => isSector_any a W)
  have HK := Lib.hid (fun W => isKind_any kind W)
  have HY := Lib.hid (fun W => wisKey_any k W hk)
  have hz := size_of s
  obtain ⟨n, hn⟩ : ∃ n, s.length = n := ⟨_, rfl⟩
  rw [hn] at hz hs hR
  generalize atB a = b0 at HS hR
  generalize kindB kind = b1 at HK hR
  generalize keyB k = b2 at HY hR
  have HB : Hid (∀ b3 : Bool, (24 ≤ n ∧ n ≤ 88 → b3 = true) → (¬ (24 ≤ n ∧ n ≤ 88) → b3 = false) → Calls Tryz.prog 15 #[.slice (some ⟨w.heap.size, 0, none⟩) 4 4] (w.alloc (.cells #[.bool b0, .int .i64 1, .bool b1, .int .i64 1, .bool b2, .int .i64 4, .bool b3, .int .i64 5] 43)) fun e w' => e = .returned (.int .i64 R) ∧ Below w.heap.size w w') := Lib.hid fun b3 h3 h4 =>
    (refusal_four b0 b1 b2 b3 1 1 4 5 _ _ (Blk.new w _ _)).mono fun e w' h => ⟨by rw [← hR b3 h3 h4]; exact h.1, bt (ba (Below.refl _ _) _) h.2⟩
  obtain ⟨q, hq⟩ : ∃ q : Int, (n : Int) - 24 = q := ⟨_, rfl⟩
  have q1 : -24 ≤ q := by omega
  have q2 : q ≤ 9223372036854775783 := by omega
  by_cases h24 : 0 ≤ q
  · have HB := Lib.hid (HB.out (decide (q ≤ 64)) (by simp; omega) (by simp; omega))
    clear hR hn hk
    go_enter Tryz.func13, Tryz.ntmps13
    go_wp2_with fail
    refine (HS.out _).mono ?_
    rintro e w1 ⟨rfl, rfl⟩
    go_wp2_with fail
    refine (HK.out _).mono ?_
    rintro e w2 ⟨rfl, rfl⟩
    go_wp2_with fail
    refine (HY.out _).mono ?_
    rintro e w3 ⟨rfl, rfl⟩
    go_wp2_with fail
    refine HB.out.mono ?_
    rintro e w4 ⟨rfl, hb4⟩
    go_wp2_with fail
    go_ret3
    exact ⟨rfl, hb4⟩
  · have HB := Lib.hid (HB.out false (by omega) (by simp))
    clear hR hn hk
    go_enter Tryz.func13, Tryz.ntmps13
    go_wp2_with fail
    refine (HS.out _).mono ?_
    rintro e w1 ⟨rfl, rfl⟩
    go_wp2_with fail
    refine (HK.out _).mono ?_
    rintro e w2 ⟨rfl, rfl⟩
    go_wp2_with fail
    refine (HY.out _).mono ?_
    rintro e w3 ⟨rfl, rfl⟩
    go_wp2_with fail
    refine HB.out.mono ?_
    rintro e w4 ⟨rfl, hb4⟩
    go_wp2_with fail
    go_ret3
    exact ⟨rfl, hb4⟩

set_option maxRecDepth 100000 in
set_option maxHeartbeats 4000000 in
theorem wopen_yes (k s : List UInt8) (kind a l : Nat) (w : World) (hk : k.length = 16 ∨ k.length = 32) (hs : (s.length : Int) ≤ 9223372036854775807) (ha : a ≤ 63) (hi : kind ≤ 2) (hl : (l : Int) ≤ 18446744073709551615) :
    Calls Tryz.prog 13 #[.string ⟨k.toArray⟩, .int .i64 (kind : Int), .int .i64 (a : Int), .int .u64 (l : Int), .string ⟨s.toArray⟩] w fun e w' => e = .returned (wopenR (wopen (encL k) kind a l s)) ∧ Below w.heap.size w w' := by
  have hA : atB (a : Int) = true := by simp [atB]; omega
  have hI : kindB (kind : Int) = true := by simp [kindB]; omega
  have hY : keyB k = true := by simp [keyB]; omega
  by_cases h : 24 ≤ s.length ∧ s.length ≤ 88
  · have HS := Lib.hid (fun W => isSector_any a W)
    have HK := Lib.hid (fun W => isKind_any kind W)
    have HYY := Lib.hid (fun W => wisKey_any k W (by omega))
    rw [hA] at HS
    rw [hI] at HK
    rw [hY] at HYY
    obtain ⟨m, hm⟩ : ∃ m, s.length = m + 24 := ⟨s.length - 24, by omega⟩
    have hm2 : s.length - 24 = m := by omega
    have l8 : (s.take 8).length = 8 := by rw [List.length_take]; omega
    have HG := Lib.hid (fun W => generation_any (s.take 8) W l8)
    have hv := val_lt (s.take 8)
    rw [l8] at hv
    unfold wopen
    rw [if_pos h, hm2]
    generalize val (s.take 8) = v at HG hv ⊢
    have HN := Lib.hid (fun W => nonceOf_any a v W ha (by omega))
    have HH := Lib.hid (fun W => headOf_any kind l m W hi hl (by omega))
    have HO := Lib.hid (fun W => open_yes k (wnonce a v) (whead kind l m) (s.drop 8) W (by simp [kfit, wnonce_len]; exact hk) (by rw [whead_len]; omega) (by rw [List.length_drop]; omega) (by rw [List.length_drop]; omega))
    have hx1 := kextract s 0 8
    rw [List.drop_zero] at hx1
    have hx2 := kextract s 8 (m + 24)
    rw [List.take_of_length_le (by omega)] at hx2
    have hz := size_of s
    rw [hm] at hz
    have HB : Hid (Calls Tryz.prog 15 #[.slice (some ⟨w.heap.size, 0, none⟩) 4 4] (w.alloc (.cells #[.bool true, .int .i64 1, .bool true, .int .i64 1, .bool true, .int .i64 4, .bool true, .int .i64 5] 43)) fun e w' => e = .returned (.int .i64 0) ∧ Below w.heap.size w w') :=
      Lib.hid ((refusal_four true true true true 1 1 4 5 _ _ (Blk.new w _ _)).mono fun e w' h => ⟨h.1, bt (ba (Below.refl _ _) _) h.2⟩)
    generalize openL (encL k) (wnonce a v) (whead kind l m) (s.drop 8) = o at HO ⊢
    generalize s.take 8 = S8 at HG hx1
    generalize s.drop 8 = D8 at HO hx2
    generalize wnonce a v = N at HN HO
    generalize whead kind l m = H at HH HO
    obtain ⟨n, hn⟩ : ∃ n, m + 24 = n := ⟨_, rfl⟩
    rw [hn] at hz hx2
    have n0 : (n : Int) - 24 = (m : Int) := by omega
    have n1 : (m : Int) ≤ 64 := by omega
    have n2 : (0 : Int) ≤ (m : Int) := by omega
    have n3 : (8 : Int) ≤ (n : Int) := by omega
    have n4 : 8 ≤ n := by omega
    have n5 : (n : Int) ≤ 88 := by omega
    clear h hm hm2 l8 hv hA hI hY hk hs ha hi hl hn
    cases o with
    | none =>
      rw [show openR none = .tuple #[.string ⟨#[]⟩, .int .i64 5] from rfl] at HO
      rw [show wopenR (Option.map (fun t => (v, t)) none) = .tuple #[.int .u64 0, .string ⟨#[]⟩, .int .i64 5] from rfl]
      go_enter Tryz.func13, Tryz.ntmps13
      go_wp2_with fail
      refine (HS.out _).mono ?_
      rintro e w1 ⟨rfl, rfl⟩
      go_wp2_with fail
      refine (HK.out _).mono ?_
      rintro e w2 ⟨rfl, rfl⟩
      go_wp2_with fail
      refine (HYY.out _).mono ?_
      rintro e w3 ⟨rfl, rfl⟩
      go_wp2_with fail
      refine HB.out.mono ?_
      rintro e w4 ⟨rfl, hb4⟩
      go_wp2_with fail
      refine (HG.out _).mono ?_
      rintro e w5 ⟨rfl, hb5⟩
      have hb5 := bt hb4 hb5
      clear hb4 HS HK HYY HB HG
      go_wp2_with fail
      have hS0 : Below w.heap.size w w5.drew := hb5.drew
      go_region_held3 (fun W => Below w.heap.size w W) (first | assumption | exact hS0) (first
        | (go_at_call 17; (with_reducible refine (HN.out _).mono ?_); rintro e w6 ⟨rfl, hb6⟩; have hB6 := bt (by assumption : Below w.heap.size w _) hb6)
        | (go_at_call 21; (with_reducible refine (HH.out _).mono ?_); rintro e w7 ⟨rfl, hb7⟩; have hB7 := bt (by assumption : Below w.heap.size w _) hb7)
        | (go_at_call 27; (with_reducible refine (HO.out _).mono ?_); rintro e w8 ⟨rfl, hb8⟩; have hB8 := bt (by assumption : Below w.heap.size w _) hb8))
      all_goals (go_wp2_with fail; go_ret3; exact ⟨rfl, by assumption⟩)
    | some t =>
      rw [show openR (some t) = .tuple #[.string ⟨t.toArray⟩, .int .i64 0] from rfl] at HO
      rw [show wopenR (Option.map (fun t => (v, t)) (some t)) = .tuple #[.int .u64 (v : Int), .string ⟨t.toArray⟩, .int .i64 0] from rfl]
      go_enter Tryz.func13, Tryz.ntmps13
      go_wp2_with fail
      refine (HS.out _).mono ?_
      rintro e w1 ⟨rfl, rfl⟩
      go_wp2_with fail
      refine (HK.out _).mono ?_
      rintro e w2 ⟨rfl, rfl⟩
      go_wp2_with fail
      refine (HYY.out _).mono ?_
      rintro e w3 ⟨rfl, rfl⟩
      go_wp2_with fail
      refine HB.out.mono ?_
      rintro e w4 ⟨rfl, hb4⟩
      go_wp2_with fail
      refine (HG.out _).mono ?_
      rintro e w5 ⟨rfl, hb5⟩
      have hb5 := bt hb4 hb5
      clear hb4 HS HK HYY HB HG
      go_wp2_with fail
      have hS0 : Below w.heap.size w w5.drew := hb5.drew
      go_region_held3 (fun W => Below w.heap.size w W) (first | assumption | exact hS0) (first
        | (go_at_call 17; (with_reducible refine (HN.out _).mono ?_); rintro e w6 ⟨rfl, hb6⟩; have hB6 := bt (by assumption : Below w.heap.size w _) hb6)
        | (go_at_call 21; (with_reducible refine (HH.out _).mono ?_); rintro e w7 ⟨rfl, hb7⟩; have hB7 := bt (by assumption : Below w.heap.size w _) hb7)
        | (go_at_call 27; (with_reducible refine (HO.out _).mono ?_); rintro e w8 ⟨rfl, hb8⟩; have hB8 := bt (by assumption : Below w.heap.size w _) hb8))
      all_goals (go_wp2_with fail; go_ret3; exact ⟨rfl, by assumption⟩)
  · unfold wopen
    rw [if_neg h]
    refine (wopen_no k s kind a l w 5 (by omega) hs (fun b3 _ h4 => ?_) rfl).mono fun e w' h => h
    rw [hA, hI, hY, h4 h]
    rfl
end Go.Proofs.YtcecjoodlmpgnaaGreat
/- The contracts of stage 11's cut and alive. -/
namespace Go.Proofs.YtcecjoodlmpgnaaGreat
open Go.RowKit

set_option maxRecDepth 100000 in
set_option maxHeartbeats 1000000 in
theorem wcut_any (s : List UInt8) (w : World) (hs : (s.length : Int) ≤ 9223372036854775807) :
    Calls Tryz.prog 5 #[.string ⟨s.toArray⟩] w fun e w' => e = .returned (.string ⟨(s.take 100).toArray⟩) ∧ w = w' := by
  have hz := size_of s
  obtain ⟨N, hN⟩ : ∃ N, s.length = N := ⟨_, rfl⟩
  rw [hN] at hz hs
  obtain ⟨m, hm⟩ : ∃ m, min N 100 = m := ⟨_, rfl⟩
  have hex := extract_take s m
  have he : s.take m = s.take 100 := by
    rw [← hm]
    by_cases h : N ≤ 100
    · rw [Nat.min_eq_left h, List.take_of_length_le (by omega), List.take_of_length_le (by omega)]
    · rw [Nat.min_eq_right (by omega)]
  rw [he] at hex
  have h1 : (m : Int) ≤ (N : Int) := by omega
  have h2 : min (N : Int) 100 = (m : Int) := by omega
  have h3 : m ≤ N := by omega
  clear hm he hN
  go_enter Tryz.func5, Tryz.ntmps5
  go_wp2
  go_ret
  exact ⟨rfl, rfl⟩

/-- The key of alive. -/
def walKey : List UInt8 := [48, 49, 50, 51, 52, 53, 54, 55, 56, 57, 97, 98, 99, 100, 101, 102]
/-- What alive seals. -/
def walS : List UInt8 := wseal (encL walKey) 0 3 258 7 [104, 105]
theorem wal_seal (w : World) : Calls Tryz.prog 7 #[.string ⟨#[48, 49, 50, 51, 52, 53, 54, 55, 56, 57, 97, 98, 99, 100, 101, 102]⟩, .int .i64 0, .int .i64 3, .int .u64 258, .int .u64 7, .string ⟨#[104, 105]⟩] w fun e w' => e = .returned (.tuple #[.string ⟨walS.toArray⟩, .int .i64 0]) ∧ Below w.heap.size w w' :=
  wseal_yes walKey [104, 105] 0 3 258 7 w (.inl rfl) (by decide) (by decide) (by decide) (by decide) (by decide)
theorem wal_open (w : World) : Calls Tryz.prog 13 #[.string ⟨#[48, 49, 50, 51, 52, 53, 54, 55, 56, 57, 97, 98, 99, 100, 101, 102]⟩, .int .i64 0, .int .i64 3, .int .u64 7, .string ⟨walS.toArray⟩] w fun e w' => e = .returned (.tuple #[.int .u64 258, .string ⟨#[104, 105]⟩, .int .i64 0]) ∧ Below w.heap.size w w' := by
  have hl : walS.length = 26 := wseal_len _ _
  have h := wopen_yes walKey walS 0 3 7 w (.inl rfl) (by rw [hl]; decide) (by decide) (by decide) (by decide)
  rw [show wopen (encL walKey) 0 3 7 walS = some (258, [104, 105]) from wopen_seal (by decide) (by decide)] at h
  exact h
set_option maxRecDepth 100000 in
set_option maxHeartbeats 1000000 in
theorem walive_any (w : World) : Calls Tryz.prog 8 #[] w fun e w' => e = .returned (.bool true) ∧ Below w.heap.size w w' := by
  have H1 := Lib.hid wal_seal
  have H2 := Lib.hid wal_open
  have hz := size_of walS
  rw [show walS.length = 26 from wseal_len _ _] at hz
  generalize walS = S at H1 H2 hz
  go_enter Tryz.func8, Tryz.ntmps8
  go_wp2_with fail
  refine (H1.out _).mono ?_
  rintro e w1 ⟨rfl, hb1⟩
  go_wp2_with fail
  refine (H2.out _).mono ?_
  rintro e w2 ⟨rfl, hb2⟩
  have hb := bt hb1 hb2
  clear hb1 hb2
  go_wp2_with fail
  go_ret
  exact ⟨rfl, hb⟩
end Go.Proofs.YtcecjoodlmpgnaaGreat
/- The contracts of the reference's Place, Nonce, head, Seal and Open. -/
namespace Go.Proofs.YtcecjoodlmpgnaaGreat
open Go.RowKit

set_option maxRecDepth 100000 in
set_option maxHeartbeats 1000000 in
theorem place_any (a k : Int) (w : World) : Calls Tryz.prog 10 #[.int .i64 a, .int .i64 k] w fun e w' => e = .returned (.bool (atB a && kindB k)) ∧ w = w' := by
  have e63 : decide (a < 64) = decide (a ≤ 63) := by by_cases h : a ≤ 63 <;> simp [h] <;> omega
  unfold atB kindB
  rw [e63]
  by_cases h0 : 0 ≤ a
  · rw [decide_eq_true h0, Bool.true_and]
    by_cases h1 : a ≤ 63
    · rw [decide_eq_true h1, Bool.true_and]
      by_cases h2 : 0 ≤ k
      · rw [decide_eq_true h2, Bool.true_and]
        clear e63
        go_enter Tryz.func10, Tryz.ntmps10
        go_wp2
        go_ret
        exact ⟨rfl, rfl⟩
      · rw [decide_eq_false h2, Bool.false_and]
        clear e63
        go_enter Tryz.func10, Tryz.ntmps10
        go_wp2
        go_ret
        exact ⟨rfl, rfl⟩
    · rw [decide_eq_false h1, Bool.false_and]
      clear e63
      go_enter Tryz.func10, Tryz.ntmps10
      go_wp2
      go_ret
      exact ⟨rfl, rfl⟩
  · rw [decide_eq_false h0, Bool.false_and, Bool.false_and]
    clear e63
    go_enter Tryz.func10, Tryz.ntmps10
    go_wp2
    go_ret
    exact ⟨rfl, rfl⟩

set_option maxRecDepth 100000 in
set_option maxHeartbeats 1000000 in
theorem rwnonce_any (a g : Nat) (w : World) (ha : a ≤ 63) (hg : (g : Int) ≤ 18446744073709551615) :
    Calls Tryz.prog 9 #[.int .i64 (a : Int), .int .u64 (g : Int)] w fun e w' => e = .returned (.string ⟨(wnonce a g).toArray⟩) ∧ Below w.heap.size w w' := by
  have HA : Hid (∀ W, Calls Tryz.prog 23 #[.int .u64 (a : Int), .int .i64 4] W fun e w' => e = .returned (.string ⟨(low a 4).toArray⟩) ∧ Below W.heap.size W w') := Lib.hid (fun W => rlow_any a 4 W (by decide) (by omega))
  have HG : Hid (∀ W, Calls Tryz.prog 23 #[.int .u64 (g : Int), .int .i64 8] W fun e w' => e = .returned (.string ⟨(low g 8).toArray⟩) ∧ Below W.heap.size W w') := Lib.hid (fun W => rlow_any g 8 W (by decide) hg)
  have had := fun (W : World) => run_string_add_lists (P := Tryz.prog) W (low a 4) (low g 8) (by rw [low_length]; omega) (by rw [low_length]; omega)
  rw [show low a 4 ++ low g 8 = wnonce a g from rfl] at had
  generalize wnonce a g = R at had ⊢
  generalize low a 4 = A4 at HA had
  generalize low g 8 = G8 at HG had
  have a0 : (0 : Int) ≤ (a : Int) := by omega
  have a1 : (a : Int) ≤ 63 := by omega
  have aw : IntKind.u64.wrap (a : Int) = (a : Int) := by rw [IntKind.wrap_u64]; omega
  clear hg
  go_enter Tryz.func9, Tryz.ntmps9
  go_wp2_with fail
  refine (HA.out _).mono ?_
  rintro e w1 ⟨rfl, hb1⟩
  go_wp2_with fail
  refine (HG.out _).mono ?_
  rintro e w2 ⟨rfl, hb2⟩
  go_wp2_with fail
  go_ret
  exact ⟨rfl, bt hb1 hb2⟩

set_option maxRecDepth 100000 in
set_option maxHeartbeats 1000000 in
theorem rwhead_any (k l n : Nat) (w : World) (hk : k ≤ 2) (hl : (l : Int) ≤ 18446744073709551615) (hn : n ≤ 64) :
    Calls Tryz.prog 25 #[.int .i64 (k : Int), .int .u64 (l : Int), .int .i64 (n : Int)] w fun e w' => e = .returned (.string ⟨(whead k l n).toArray⟩) ∧ Below w.heap.size w w' := by
  have HK : Hid (∀ W, Calls Tryz.prog 23 #[.int .u64 (k : Int), .int .i64 8] W fun e w' => e = .returned (.string ⟨(low k 8).toArray⟩) ∧ Below W.heap.size W w') := Lib.hid (fun W => rlow_any k 8 W (by decide) (by omega))
  have HL : Hid (∀ W, Calls Tryz.prog 23 #[.int .u64 (l : Int), .int .i64 8] W fun e w' => e = .returned (.string ⟨(low l 8).toArray⟩) ∧ Below W.heap.size W w') := Lib.hid (fun W => rlow_any l 8 W (by decide) hl)
  have HN : Hid (∀ W, Calls Tryz.prog 23 #[.int .u64 (n : Int), .int .i64 8] W fun e w' => e = .returned (.string ⟨(low n 8).toArray⟩) ∧ Below W.heap.size W w') := Lib.hid (fun W => rlow_any n 8 W (by decide) (by omega))
  have had := fun (W : World) => run_string_add_lists (P := Tryz.prog) W (low k 8) (low l 8) (by rw [low_length]; omega) (by rw [low_length]; omega)
  have had2 := fun (W : World) => run_string_add_lists (P := Tryz.prog) W (low k 8 ++ low l 8) (low n 8) (by rw [List.length_append, low_length, low_length]; omega) (by rw [low_length]; omega)
  rw [show low k 8 ++ low l 8 ++ low n 8 = whead k l n from rfl] at had2
  generalize whead k l n = R at had2 ⊢
  generalize low k 8 ++ low l 8 = KL at had had2
  generalize low k 8 = K8 at HK had
  generalize low l 8 = L8 at HL had
  generalize low n 8 = N8 at HN had2
  have k0 : (0 : Int) ≤ (k : Int) := by omega
  have k1 : (k : Int) ≤ 2 := by omega
  have n0 : (0 : Int) ≤ (n : Int) := by omega
  have n1 : (n : Int) ≤ 64 := by omega
  have kw : IntKind.u64.wrap (k : Int) = (k : Int) := by rw [IntKind.wrap_u64]; omega
  have nw : IntKind.u64.wrap (n : Int) = (n : Int) := by rw [IntKind.wrap_u64]; omega
  clear hl
  go_enter Tryz.func25, Tryz.ntmps25
  go_wp2_with fail
  refine (HK.out _).mono ?_
  rintro e w1 ⟨rfl, hb1⟩
  go_wp2_with fail
  refine (HL.out _).mono ?_
  rintro e w2 ⟨rfl, hb2⟩
  go_wp2_with fail
  refine (HN.out _).mono ?_
  rintro e w3 ⟨rfl, hb3⟩
  go_wp2_with fail
  go_ret
  exact ⟨rfl, bt (bt hb1 hb2) hb3⟩

set_option maxRecDepth 100000 in
set_option maxHeartbeats 1000000 in
theorem rwseal_any (k d : List UInt8) (kind a g l : Nat) (w : World) (hk : k.length = 16 ∨ k.length = 32) (hd : d.length ≤ 64) (ha : a ≤ 63) (hi : kind ≤ 2) (hg : (g : Int) ≤ 18446744073709551615) (hl : (l : Int) ≤ 18446744073709551615) :
    Calls Tryz.prog 12 #[.string ⟨k.toArray⟩, .int .i64 (kind : Int), .int .i64 (a : Int), .int .u64 (g : Int), .int .u64 (l : Int), .string ⟨d.toArray⟩] w fun e w' => e = .returned (.string ⟨(wseal (encL k) kind a g l d).toArray⟩) ∧ Below w.heap.size w w' := by
  have HN := Lib.hid (fun W => rwnonce_any a g W ha hg)
  have HH := Lib.hid (fun W => rwhead_any kind l d.length W hi hl hd)
  have HE := Lib.hid (fun W => rseal_any k (wnonce a g) (whead kind l d.length) d W hk (wnonce_len _ _) (by rw [whead_len]; omega) (by omega))
  have HG : Hid (∀ W, Calls Tryz.prog 23 #[.int .u64 (g : Int), .int .i64 8] W fun e w' => e = .returned (.string ⟨(low g 8).toArray⟩) ∧ Below W.heap.size W w') := Lib.hid (fun W => rlow_any g 8 W (by decide) hg)
  have had := fun (W : World) => run_string_add_lists (P := Tryz.prog) W (low g 8) (sealL (encL k) (wnonce a g) (whead kind l d.length) d) (by rw [low_length]; omega) (by rw [sealL_len]; omega)
  rw [show low g 8 ++ sealL (encL k) (wnonce a g) (whead kind l d.length) d = wseal (encL k) kind a g l d from rfl] at had
  have hz := size_of d
  generalize wseal (encL k) kind a g l d = R at had ⊢
  generalize sealL (encL k) (wnonce a g) (whead kind l d.length) d = S at HE had
  generalize wnonce a g = N at HN HE
  obtain ⟨n, hn⟩ : ∃ n, d.length = n := ⟨_, rfl⟩
  rw [hn] at hz hd HH HE
  generalize whead kind l n = H at HH HE
  generalize low g 8 = G at HG had
  have n1 : (n : Int) ≤ 64 := by omega
  clear hn hk ha hi hg hl hd
  go_enter Tryz.func12, Tryz.ntmps12
  go_wp2_with fail
  refine (HG.out _).mono ?_
  rintro e w1 ⟨rfl, hb1⟩
  go_wp2_with fail
  refine (HN.out _).mono ?_
  rintro e w2 ⟨rfl, hb2⟩
  have hb2 := bt hb1 hb2
  go_wp2_with fail
  refine (HH.out _).mono ?_
  rintro e w3 ⟨rfl, hb3⟩
  have hb3 := bt hb2 hb3
  go_wp2_with fail
  refine (HE.out _).mono ?_
  rintro e w4 ⟨rfl, hb4⟩
  have hb4 := bt hb3 hb4
  clear hb1 hb2 hb3
  go_wp2_with fail
  go_ret
  exact ⟨rfl, hb4⟩

/-- What the reference's Open tells. -/
def rwopenR (o : Option (Nat × List UInt8)) : Value := .agg #[.int .u64 ((o.getD (0, [])).1 : Int), .string ⟨(o.getD (0, [])).2.toArray⟩, .bool o.isSome]
end Go.Proofs.YtcecjoodlmpgnaaGreat
