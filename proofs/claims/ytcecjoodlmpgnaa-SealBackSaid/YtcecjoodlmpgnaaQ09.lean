/- Texts of this seat, one behind the other: CSplit, KMath, KTold, FRefM, AMath0, FDbl, FMul, FPow, FRefA, FRefB, FBox, FRefP. -/
import Derived.Outline
import Derived.Laws.BitsAllLaws
import Derived.IntWalk
import Derived.Laws.Bits64b
import Derived.Test.YtcecjoodlmpgnaaFLen
import Derived.Test.YtcecjoodlmpgnaaQ01
import Derived.Test.YtcecjoodlmpgnaaQ02
import Derived.Test.YtcecjoodlmpgnaaQ07
import Derived.Test.YtcecjoodlmpgnaaQ08
/- Contracts of areKinds and Split. -/
namespace Go.Proofs.Ytcecjoodlmpgnaa
open Go.RowKit

/-- What bytes tell, of kinds that may be: the fields, or where and why not. -/
def splitGo (s : List UInt8) : List UInt8 → Nat → List Fld → List Fld × Nat × Int
  | [], n, acc => if n < s.length then ([], n, 10) else (acc, 0, 0)
  | k :: ks, n, acc => match fsz s n k with
    | none => ([], n, 10)
    | some z => splitGo s ks (n + z) (acc ++ [fldAt s n k])

theorem not_kind {c : UInt8} (h : ¬ Kind c) : ¬ (c.toNat : Int) = 110 ∧ ¬ (c.toNat : Int) = 116 := by
  constructor
  · intro e
    exact h (.inl (UInt8.toNat_inj.1 (Int.ofNat.inj e)))
  · intro e
    exact h (.inr (UInt8.toNat_inj.1 (Int.ofNat.inj e)))

set_option maxRecDepth 100000 in
set_option maxHeartbeats 1000000 in
theorem areKinds_yes (ks : List UInt8) (w : World) (h : ∀ k ∈ ks, Kind k) (hl : (ks.length : Int) ≤ 1048576) :
    Calls Try.prog 33 #[.string ⟨ks.toArray⟩] w fun e w' => e = .returned (.bool true) ∧ w = w' := by
  have hz := size_mk ks
  have H := Lib.hid h
  clear h
  go_enter Try.func33, Try.ntmps33
  go_wp2_with fail
  go_loop [6] (fun iv => ∃ k : Nat, k ≤ ks.length ∧ iv = .int .i64 k) (fun i => ks.length - (intOf i).toNat)
  case atStart => exact ⟨0, Nat.zero_le _, rfl⟩
  case round =>
    obtain ⟨k, hk, rfl⟩ := hrel
    by_cases hlt : k < ks.length
    · have hkd := H.out _ (List.getElem_mem hlt)
      have hget := get_mk ks k (by rw [hz]; exact hlt)
      rcases hkd with hc | hc
      · rw [hc] at hget
        clear hc
        go_wp2
        exact ⟨⟨k + 1, by omega, by go_num⟩, by simp [intOf]; omega⟩
      · rw [hc] at hget
        clear hc
        go_wp2
        exact ⟨⟨k + 1, by omega, by go_num⟩, by simp [intOf]; omega⟩
    · obtain rfl : k = ks.length := by omega
      go_wp2
      go_ret
      exact ⟨rfl, rfl⟩

set_option maxRecDepth 100000 in
set_option maxHeartbeats 1000000 in
theorem areKinds_no (ks : List UInt8) (w : World) (b : Nat) (hb : b < ks.length) (h : ∀ k ∈ ks.take b, Kind k) (hn : ¬ Kind ks[b]) (hl : (ks.length : Int) ≤ 1048576) :
    Calls Try.prog 33 #[.string ⟨ks.toArray⟩] w fun e w' => e = .returned (.bool false) ∧ w = w' := by
  have hz := size_mk ks
  have H : Hid (∀ k (hk : k < b), Kind (ks[k]'(Nat.lt_trans hk hb))) := fun k hk => h _ (by rw [List.mem_take_iff_getElem]; exact ⟨k, by omega, rfl⟩)
  have HN := Lib.hid hn
  clear h hn
  go_enter Try.func33, Try.ntmps33
  go_wp2_with fail
  go_loop [6] (fun iv => ∃ k : Nat, k ≤ b ∧ iv = .int .i64 k) (fun i => b - (intOf i).toNat)
  case atStart => exact ⟨0, Nat.zero_le _, rfl⟩
  case round =>
    obtain ⟨k, hk, rfl⟩ := hrel
    have hkl : k < ks.length := by omega
    have hget := get_mk ks k (by rw [hz]; exact hkl)
    by_cases hlt : k < b
    · have hkd := H.out k hlt
      rcases hkd with hc | hc
      · rw [hc] at hget
        clear hc
        go_wp2
        exact ⟨⟨k + 1, by omega, by go_num⟩, by simp [intOf]; omega⟩
      · rw [hc] at hget
        clear hc
        go_wp2
        exact ⟨⟨k + 1, by omega, by go_num⟩, by simp [intOf]; omega⟩
    · obtain rfl : k = b := by omega
      have hx := HN.out
      obtain ⟨c, hc⟩ : ∃ c, ks[k] = c := ⟨_, rfl⟩
      rw [hc] at hget hx
      clear hc
      obtain ⟨n1, n2⟩ := not_kind hx
      have m1 : ((c.toNat : Int) != 110) = true := by simpa using n1
      have m2 : ((c.toNat : Int) != 116) = true := by simpa using n2
      clear hx
      go_wp2
      go_ret
      exact ⟨rfl, rfl⟩

/-- What Split hands back. -/
def SplitPost (w : World) (R : List Fld × Nat × Int) (e : Ending) (w' : World) : Prop :=
  ∃ A cap, e = .returned (.tuple #[.slice A R.1.length cap, .int .i64 (R.2.1 : Int), .int .i64 R.2.2]) ∧ FR w' A R.1 ∧ R.1.length ≤ cap ∧ Below w.heap.size w w'
theorem fcells_at (L : List Fld) (j : Nat) (h : j < L.length) : (fcells L)[j * 3]? = some (.bool L[j].1) ∧ (fcells L)[j * 3 + 1]? = some (.int .u64 (L[j].2.1 : Int)) ∧ (fcells L)[j * 3 + 2]? = some (.string ⟨L[j].2.2.toArray⟩) := by
  induction L generalizing j with
  | nil => exact absurd h (Nat.not_lt_zero j)
  | cons x L ih =>
    have e : fcells (x :: L) = [.bool x.1, .int .u64 (x.2.1 : Int), .string ⟨x.2.2.toArray⟩] ++ fcells L := by simp [fcells]
    cases j with
    | zero => rw [e]; simp
    | succ j =>
      have h' : j < L.length := by simpa using h
      obtain ⟨h0, h1, h2⟩ := ih j h'
      rw [e]
      refine ⟨?_, ?_, ?_⟩
      · rw [List.getElem?_append_right (by simp; omega), show (j + 1) * 3 - _ = j * 3 by simp; omega]; exact h0
      · rw [List.getElem?_append_right (by simp; omega), show (j + 1) * 3 + 1 - _ = j * 3 + 1 by simp; omega]; exact h1
      · rw [List.getElem?_append_right (by simp; omega), show (j + 1) * 3 + 2 - _ = j * 3 + 2 by simp; omega]; exact h2
theorem fr_own {W : World} {base : Nat} {v : Value} {L : List Fld} (h : W.ownsRow base 58 3 v L.length (fcells L)) : ∃ A cap, v = .slice A L.length cap ∧ FR W A L ∧ L.length ≤ cap := by
  rcases h.2 with ⟨rfl, h0⟩ | ⟨g, cap, cur, rfl, hg, hh, hle, _⟩
  · have : L = [] := List.eq_nil_of_length_eq_zero h0
    subst this
    exact ⟨none, 0, rfl, FR.nil _ _, Nat.le_refl _⟩
  · refine ⟨some ⟨g, 0, none⟩, cap, rfl, fun j hj => ?_, hle⟩
    obtain ⟨h0, h1, h2⟩ := fcells_at L j hj
    refine ⟨g, 0, rfl, ?_, ?_, ?_⟩
    · rw [Nat.zero_add, h.cellAt (j * 3) (by omega)]; exact h0
    · rw [Nat.zero_add, h.cellAt (j * 3 + 1) (by omega)]; exact h1
    · rw [Nat.zero_add, h.cellAt (j * 3 + 2) (by omega)]; exact h2

theorem split_none {s : List UInt8} {ks : List UInt8} {k n : Nat} {acc : List Fld} {R : List Fld × Nat × Int} (hk : k < ks.length) (h : splitGo s (ks.drop k) n acc = R) (hz : fsz s n ks[k] = none) : R = ([], n, 10) := by
  rw [List.drop_eq_getElem_cons hk, splitGo, hz] at h
  exact h.symm
theorem split_some {s : List UInt8} {ks : List UInt8} {k n z : Nat} {acc : List Fld} {R : List Fld × Nat × Int} (hk : k < ks.length) (h : splitGo s (ks.drop k) n acc = R) (hz : fsz s n ks[k] = some z) : splitGo s (ks.drop (k + 1)) (n + z) (acc ++ [fldAt s n ks[k]]) = R := by
  rw [List.drop_eq_getElem_cons hk, splitGo, hz] at h
  exact h

set_option maxRecDepth 100000 in
set_option maxHeartbeats 4000000 in
theorem split_ok (s ks : List UInt8) (w : World) (R : List Fld × Nat × Int) (hR : splitGo s ks 0 [] = R) (h : ∀ k ∈ ks, Kind k) (hl : ks.length ≤ 60) (hs : (s.length : Int) ≤ 9223372036854775807) :
    Calls Try.prog 27 #[.string ⟨s.toArray⟩, .string ⟨ks.toArray⟩] w (SplitPost w R) := by
  have hz := size_mk ks
  have H := Lib.hid h
  have HR := Lib.hid hR
  clear h hR
  have hRd : Rd (w.alloc (.cells #[.int .i64 0, .string ⟨s.toArray⟩, .slice none 0 0] 71)) w.heap.size s 0 (.slice none 0 0) [] w.heap.size :=
    ⟨Blk.new _ _ _, World.ownsRow_nil _ _ _ _, Nat.zero_le _⟩
  have HRD := Lib.hid hRd
  clear hRd
  go_enter Try.func27, Try.ntmps27
  go_wp2_with fail
  refine (areKinds_yes ks _ H.out (by omega)).mono ?_
  rintro e w1 ⟨rfl, rfl⟩
  go_wp2_with fail
  go_loopw [16] (fun iv wr => ∃ (k n : Nat) (v : Value) (acc : List Fld), k ≤ ks.length ∧ iv = .int .i64 k ∧ acc.length = k ∧ Rd wr w.heap.size s n v acc w.heap.size ∧ Hid (splitGo s (ks.drop k) n acc = R) ∧ Below w.heap.size w wr) (fun i _ => ks.length - (intOf i).toNat)
  case atStart => exact ⟨0, 0, _, [], Nat.zero_le _, rfl, rfl, HRD.out, HR, (Below.refl _ _).alloc (Nat.le_refl _) _⟩
  case round =>
    obtain ⟨k, n, v, acc, hk, rfl, hacc, hrd, HS, hb⟩ := hrel
    have HA := Lib.hid hacc
    clear hacc
    by_cases hlt : k < ks.length
    · have hkd := H.out _ (List.getElem_mem hlt)
      have hget := get_mk ks k (by rw [hz]; exact hlt)
      cases hf : fsz s n ks[k] with
      | none =>
        have HN := Lib.hid (split_none hlt HS.out hf)
        have HF := Lib.hid hf
        clear hf
        obtain ⟨c, hc⟩ : ∃ c, ks[k] = c := ⟨_, rfl⟩
        rw [hc] at hget HF hkd
        clear hc
        go_wp2_with fail
        refine (field_none w.heap.size n w.heap.size c s v acc _ hrd hkd HF.out hs).mono ?_
        rintro e w2 ⟨rfl, hrd2, ho⟩
        have P0 := (hrd2.1.at_ (i := 0) rfl).1
        have hb2 : Below w.heap.size w w2 := hb.trans (ho.below (Nat.le_refl _) (Nat.le_refl _) hb.size)
        clear hrd2 ho hb
        go_wp2_with fail
        go_quiet (fail)
        go_wp2
        go_ret3
        rw [HN.out]
        exact ⟨none, 0, rfl, FR.nil _ _, Nat.le_refl _, ⟨hb2.os, hb2.tape, hb2.output, hb2.size, hb2.block⟩⟩
      | some z =>
        have HN := Lib.hid (split_some hlt HS.out hf)
        have HF := Lib.hid hf
        clear hf
        obtain ⟨c, hc⟩ : ∃ c, ks[k] = c := ⟨_, rfl⟩
        rw [hc] at hget HF hkd HN
        clear hc
        go_wp2_with fail
        refine (field_some w.heap.size n z w.heap.size c s v acc _ hrd hkd HF.out hs (by rw [HA.out]; omega) (Nat.le_refl _) hb.size).mono ?_
        rintro e w2 ⟨rfl, ⟨v2, hrd2⟩, hb2⟩
        have hb3 := hb.trans hb2
        go_wp2
        exact ⟨⟨k + 1, n + z, v2, _, by omega, by go_num, by rw [List.length_append, HA.out]; rfl, hrd2, HN, hb3⟩, by simp [intOf]; omega⟩
    · obtain rfl : k = ks.length := by omega
      have hS := HS.out
      rw [List.drop_length, splitGo] at hS
      by_cases hn : n < s.length
      · rw [if_pos hn] at hS
        have HN := Lib.hid hS
        clear hS
        go_wp2_with fail
        refine (done_any w.heap.size n w.heap.size s v acc _ hrd false (by simp; omega)).mono ?_
        rintro e w2 ⟨rfl, q, rfl⟩
        have P0 := ((hrd.drewN q).1.at_ (i := 0) rfl).1
        have hb2 : Below w.heap.size w (wr.drewN q) := ⟨hb.os, hb.tape, hb.output, hb.size, hb.block⟩
        obtain ⟨w2, hw2⟩ : ∃ w2, wr.drewN q = w2 := ⟨_, rfl⟩
        rw [hw2] at P0 hb2 ⊢
        clear hw2 hrd hb
        go_wp2_with fail
        go_quiet (fail)
        go_wp2
        go_ret3
        rw [← HN.out]
        exact ⟨none, 0, rfl, FR.nil _ _, Nat.le_refl _, ⟨hb2.os, hb2.tape, hb2.output, hb2.size, hb2.block⟩⟩
      · rw [if_neg hn] at hS
        have HN := Lib.hid hS
        clear hS
        have hnl : n = s.length := by have := hrd.2.2; omega
        subst hnl
        go_wp2_with fail
        refine (done_any w.heap.size s.length w.heap.size s v acc _ hrd true (by simp)).mono ?_
        rintro e w2 ⟨rfl, q, rfl⟩
        have P2 := ((hrd.drewN q).1.at_ (i := 2) rfl).1
        have hb2 : Below w.heap.size w (wr.drewN q) := ⟨hb.os, hb.tape, hb.output, hb.size, hb.block⟩
        obtain ⟨A, cap, rfl, hF, hc⟩ := fr_own (hrd.drewN q).2.1
        obtain ⟨w2, hw2⟩ : ∃ w2, wr.drewN q = w2 := ⟨_, rfl⟩
        rw [hw2] at P2 hb2 hF ⊢
        clear hw2 hrd hb
        go_wp2
        go_ret3
        rw [← HN.out]
        exact ⟨A, cap, rfl, hF, hc, hb2⟩

set_option maxRecDepth 100000 in
set_option maxHeartbeats 1000000 in
theorem split_bad (s ks : List UInt8) (w : World) (b : Nat) (hb : b < ks.length) (h : ∀ k ∈ ks.take b, Kind k) (hn : ¬ Kind ks[b]) (hl : ks.length ≤ 60) :
    Calls Try.prog 27 #[.string ⟨s.toArray⟩, .string ⟨ks.toArray⟩] w (SplitPost w ([], 0, 1)) := by
  have H := Lib.hid h
  have HN := Lib.hid hn
  clear h hn
  go_enter Try.func27, Try.ntmps27
  go_wp2_with fail
  refine (areKinds_no ks _ b hb H.out HN.out (by omega)).mono ?_
  rintro e w1 ⟨rfl, rfl⟩
  go_wp2
  go_ret3
  exact ⟨none, 0, rfl, FR.nil _ _, Nat.le_refl _, Below.refl _ _⟩
end Go.Proofs.Ytcecjoodlmpgnaa
/- The bytes of a stream by their places, and what is left of its block; plain lists. -/
namespace Go.Proofs.Ytcecjoodlmpgnaa

theorem be4_four (c : Nat) (h : c < 4294967296) : be4 c = [UInt8.ofNat (c / 16777216 % 256), UInt8.ofNat (c / 65536 % 256), UInt8.ofNat (c / 256 % 256), UInt8.ofNat (c % 256)] := by
  unfold be4
  rw [Nat.mod_eq_of_lt h]
  simp [beL]
theorem be4_mod (c : Nat) : be4 (c % 4294967296) = be4 c := by unfold be4; rw [Nat.mod_mod]
theorem be4_len (c : Nat) : (be4 c).length = 4 := beL_len _ _
theorem ub_app (A B : List UInt8) (k : Nat) : ub (A ++ B) k = if k < A.length then ub A k else ub B (k - A.length) := by
  by_cases h : k < A.length
  · rw [if_pos h]; simp [ub, List.getD, List.getElem?_append_left h]
  · rw [if_neg h]; simp [ub, List.getD, List.getElem?_append_right (Nat.le_of_not_lt h)]
section
variable (E : List UInt8 → List UInt8) (nonce : List UInt8) (c : Nat)
/-- A stream's byte at a place. -/
def ksb (k : Nat) : UInt8 := ub (E (nonce ++ be4 (c + k / 16))) (k % 16)
/-- What is left of the block, so many bytes taken. -/
def ksr (k : Nat) : List UInt8 := if k % 16 = 0 then [] else (E (nonce ++ be4 (c + k / 16))).drop (k % 16)
/-- The number of the next block. -/
def ksn (k : Nat) : Nat := (c + (k + 15) / 16) % 4294967296
/-- A text xor a stream. -/
def ksx (t : List UInt8) : List UInt8 := tab t.length fun k => ub t k ^^^ ksb E nonce c k
end
section
variable {E : List UInt8 → List UInt8} {nonce : List UInt8} {c : Nat}
theorem strB_len (hE : ∀ i, (E (nonce ++ be4 i)).length = 16) : ∀ n, (strB E nonce c n).length = 16 * n := by
  intro n
  induction n with
  | zero => rfl
  | succ n ih => rw [strB, List.length_append, ih, hE]; omega
theorem ub_strB (hE : ∀ i, (E (nonce ++ be4 i)).length = 16) : ∀ n k, k < 16 * n → ub (strB E nonce c n) k = ksb E nonce c k := by
  intro n
  induction n with
  | zero => intro k h; omega
  | succ n ih =>
    intro k h
    rw [strB, ub_app, strB_len hE]
    by_cases hk : k < 16 * n
    · rw [if_pos hk, ih k hk]
    · rw [if_neg hk]
      unfold ksb
      rw [show k / 16 = n by omega, show k % 16 = k - 16 * n by omega]
theorem strL_len (hE : ∀ i, (E (nonce ++ be4 i)).length = 16) (n : Nat) : (strL E nonce c n).length = n := by
  unfold strL
  rw [List.length_take, strB_len hE]
  omega
theorem ub_strL (hE : ∀ i, (E (nonce ++ be4 i)).length = 16) {n k : Nat} (hk : k < n) : ub (strL E nonce c n) k = ksb E nonce c k := by
  unfold strL
  rw [gub_take, if_pos hk, ub_strB hE _ _ (by omega)]
theorem ksx_len (t : List UInt8) : (ksx E nonce c t).length = t.length := tab_len _ _
theorem ub_ksx {t : List UInt8} {k : Nat} (hk : k < t.length) : ub (ksx E nonce c t) k = ub t k ^^^ ksb E nonce c k := ub_tab _ hk
theorem ksx_is (hE : ∀ i, (E (nonce ++ be4 i)).length = 16) (t : List UInt8) : ksx E nonce c t = xorL t (strL E nonce c t.length) := by
  unfold ksx xorL
  exact tab_ext fun i hi => by rw [ub_strL hE hi]
theorem ksx_zeros (hE : ∀ i, (E (nonce ++ be4 i)).length = 16) (n : Nat) : ksx E nonce c (List.replicate n 0) = strL E nonce c n := by
  refine list_ext (n := n) (by rw [ksx_len, List.length_replicate]) (strL_len hE _) fun i hi => ?_
  rw [ub_ksx (by rw [List.length_replicate]; exact hi), ub_strL hE hi]
  have : ub (List.replicate n (0 : UInt8)) i = 0 := by simp [ub, List.getD, hi]
  rw [this, UInt8.zero_xor]
/-- Behind a byte that is taken of a block that was not. -/
theorem ksr_first {k : Nat} (hk : k % 16 = 0) (b : UInt8) (r : List UInt8) (he : E (nonce ++ be4 (c + k / 16)) = b :: r) : ksb E nonce c k = b ∧ ksr E nonce c (k + 1) = r ∧ ksn c (k + 1) = (ksn c k + 1) % 4294967296 ∧ ksr E nonce c k = [] ∧ be4 (ksn c k) = be4 (c + k / 16) := by
  refine ⟨?_, ?_, ?_, ?_, ?_⟩
  · unfold ksb; rw [hk, he]; rfl
  · unfold ksr
    rw [if_neg (by omega), show (k + 1) / 16 = k / 16 by omega, show (k + 1) % 16 = 1 by omega, he]
    rfl
  · unfold ksn
    rw [show (k + 1 + 15) / 16 = (k + 15) / 16 + 1 by omega]
    omega
  · unfold ksr; rw [if_pos hk]
  · unfold ksn
    rw [be4_mod, show (k + 15) / 16 = k / 16 by omega]
/-- Behind a byte that is taken of a block that was begun. -/
theorem ksr_more (hE : ∀ i, (E (nonce ++ be4 i)).length = 16) {k : Nat} (hk : k % 16 ≠ 0) : ∃ b r, ksr E nonce c k = b :: r ∧ ksb E nonce c k = b ∧ ksr E nonce c (k + 1) = r ∧ ksn c (k + 1) = ksn c k := by
  have hl := hE (c + k / 16)
  have hd := List.drop_eq_getElem_cons (l := E (nonce ++ be4 (c + k / 16))) (i := k % 16) (by omega)
  refine ⟨(E (nonce ++ be4 (c + k / 16)))[k % 16]'(by omega), (E (nonce ++ be4 (c + k / 16))).drop (k % 16 + 1), ?_, ?_, ?_, ?_⟩
  · unfold ksr; rw [if_neg hk]; exact hd
  · unfold ksb; exact ub_at (by omega)
  · unfold ksr
    by_cases h : (k + 1) % 16 = 0
    · rw [if_pos h, List.drop_of_length_le (by omega)]
    · rw [if_neg h, show (k + 1) / 16 = k / 16 by omega, show (k + 1) % 16 = k % 16 + 1 by omega]
  · unfold ksn
    rw [show (k + 1 + 15) / 16 = (k + 15) / 16 by omega]
end
end Go.Proofs.Ytcecjoodlmpgnaa
/- The contracts of told and of the reference's counter: a number's 4 bytes. -/
namespace Go.Proofs.Ytcecjoodlmpgnaa
open Go.RowKit

theorem four_conv (x0 x1 x2 x3 : Int) (b0 b1 b2 b3 : UInt8) (h0 : x0 = (b0.toNat : Int)) (h1 : x1 = (b1.toNat : Int)) (h2 : x2 = (b2.toNat : Int)) (h3 : x3 = (b3.toNat : Int)) (W : World) :
    (convert 59 9 (.slice (some ⟨W.heap.size, 0, none⟩) 4 4)).run Try.prog (W.alloc (.cells #[.int .u8 x0, .int .u8 x1, .int .u8 x2, .int .u8 x3] 5)) = .ok (.string ⟨[b0, b1, b2, b3].toArray⟩) (W.alloc (.cells #[.int .u8 x0, .int .u8 x1, .int .u8 x2, .int .u8 x3] 5)) := by
  subst h0 h1 h2 h3
  exact run_convert_bytes_back (P := Try.prog) (W.alloc (.cells #[.int .u8 (b0.toNat : Int), .int .u8 (b1.toNat : Int), .int .u8 (b2.toNat : Int), .int .u8 (b3.toNat : Int)] 5)) 59 9 5 ⟨W.heap.size, 0, none⟩ 4 [b0, b1, b2, b3] Try.underlying59 Try.underlying5 Try.underlying9 (fun j hj => by
    obtain rfl | rfl | rfl | rfl : j = 0 ∨ j = 1 ∨ j = 2 ∨ j = 3 := by simp at hj; omega
    all_goals simp [Addr.add])
theorem be4_conv (c : Nat) (hc : c < 4294967296) (x0 x1 x2 x3 : Int) (h0 : x0 = ((c / 16777216 % 256 : Nat) : Int)) (h1 : x1 = ((c / 65536 % 256 : Nat) : Int)) (h2 : x2 = ((c / 256 % 256 : Nat) : Int)) (h3 : x3 = ((c % 256 : Nat) : Int)) (W : World) :
    (convert 59 9 (.slice (some ⟨W.heap.size, 0, none⟩) 4 4)).run Try.prog (W.alloc (.cells #[.int .u8 x0, .int .u8 x1, .int .u8 x2, .int .u8 x3] 5)) = .ok (.string ⟨(be4 c).toArray⟩) (W.alloc (.cells #[.int .u8 x0, .int .u8 x1, .int .u8 x2, .int .u8 x3] 5)) := by
  rw [be4_four c hc]
  have hm : ∀ n : Nat, (UInt8.ofNat (n % 256)).toNat = n % 256 := fun n => by simp
  exact four_conv x0 x1 x2 x3 _ _ _ _ (by rw [hm]; exact h0) (by rw [hm]; exact h1) (by rw [hm]; exact h2) (by rw [hm]; exact h3) W

set_option maxRecDepth 100000 in
set_option maxHeartbeats 2000000 in
theorem ktold_any (c : Nat) (w : World) (hc : c < 4294967296) : Calls Try.prog 36 #[.int .u32 (c : Int)] w fun e w' => e = .returned (.string ⟨(be4 c).toArray⟩) ∧ Below w.heap.size w w' := by
  have hcv := be4_conv c hc ((c : Int) / 16777216) ((c : Int) / 65536 % 256) ((c : Int) / 256 % 256) ((c : Int) % 256) (by omega) (by omega) (by omega) (by omega) w
  generalize be4 c = B at hcv ⊢
  go_enter Try.func36, Try.ntmps36
  go_wp2
  go_ret
  exact ⟨rfl, ba (Below.refl _ _) _⟩
end Go.Proofs.Ytcecjoodlmpgnaa
/- The reference's product, inverse and box in plain numbers, and that they are the code's. -/
namespace Go.Proofs.Ytcecjoodlmpgnaa

/-- The long product, of so many bits. -/
def longN (a b : Nat) : Nat → Nat
  | 0 => 0
  | k + 1 => longN a b k ^^^ sel (b.testBit k) (a * 2 ^ k)
/-- What is left of it behind so many steps. -/
def leftN (n : Nat) : Nat → Nat
  | 0 => n
  | j + 1 => leftN n j ^^^ sel ((leftN n j).testBit (14 - j)) (283 * 2 ^ (6 - j))
theorem lin_longL (b k : Nat) : Lin fun a => longN a b k := by
  induction k with
  | zero => exact Lin.none
  | succ k ih => exact Lin.add (f := fun a => longN a b k) ih (Lin.sel (f := fun a => a * 2 ^ k) (lin_mul k) _)
theorem lin_longR (a k : Nat) : Lin fun b => longN a b k := by
  induction k with
  | zero => exact Lin.none
  | succ k ih => exact Lin.add (f := fun b => longN a b k) ih (Lin.bit k _)
theorem lin_leftN (j : Nat) : Lin fun n => leftN n j := by
  induction j with
  | zero => exact Lin.self
  | succ j ih => exact Lin.add (f := fun n => leftN n j) ih (Lin.comp (f := fun m => sel (m.testBit (14 - j)) (283 * 2 ^ (6 - j))) (Lin.bit _ _) ih)
def rm (a b : Nat) : Nat := leftN (longN a b 8) 7 % 256
theorem rm_is {a b : Nat} (ha : a < 256) (hb : b < 256) : rm a b = cm a b := by
  have key : ∀ i, i < 8 → ∀ j, j < 8 → rm (2 ^ i) (2 ^ j) = cm (2 ^ i) (2 ^ j) := by decide +kernel
  have hl : ∀ b, Lin fun a => rm a b := fun b => Lin.comp (f := fun n => leftN n 7 % 256) (Lin.comp (f := fun n => n % 256) (lin_mod 8) (lin_leftN 7)) (lin_longL b 8)
  have hr : ∀ a, Lin fun b => rm a b := fun a => Lin.comp (f := fun n => leftN n 7 % 256) (Lin.comp (f := fun n => n % 256) (lin_mod 8) (lin_leftN 7)) (lin_longR a 8)
  exact byte_ext (f := fun a => rm a b) (g := fun a => cm a b) (hl b) (cm_left b) (fun i hi =>
    byte_ext (f := fun b => rm (2 ^ i) b) (g := fun b => cm (2 ^ i) b) (hr _) (cm_right _) (key i hi) b hb) a ha
theorem xor_lt15 {a b : Nat} (h : a < 32768) (k : b < 32768) : a ^^^ b < 32768 := Nat.xor_lt_two_pow (n := 15) h k
theorem mul_pow_le (a k m : Nat) (ha : a ≤ 283) (hk : k ≤ m) : a * 2 ^ k ≤ 283 * 2 ^ m := Nat.mul_le_mul ha (Nat.pow_le_pow_right (by omega) hk)
theorem longN_lt {a : Nat} (ha : a < 256) (b k : Nat) (hk : k ≤ 8) : longN a b k < 32768 := by
  induction k with
  | zero => exact (by decide : (0 : Nat) < 32768)
  | succ k ih =>
    have h1 : a * 2 ^ k ≤ 255 * 2 ^ 7 := Nat.mul_le_mul (by omega) (Nat.pow_le_pow_right (by omega) (by omega))
    exact xor_lt15 (ih (by omega)) (sel_lt (by omega) (by omega))
theorem leftN_lt {n : Nat} (hn : n < 32768) (j : Nat) (hj : j ≤ 7) : leftN n j < 32768 := by
  induction j with
  | zero => exact hn
  | succ j ih =>
    have h1 := mul_pow_le 283 (6 - j) 6 (by omega) (by omega)
    exact xor_lt15 (ih (by omega)) (sel_lt (by omega) (by omega))

/-- A byte's box, so many bits of it. -/
def sumB (b i : Nat) : Nat := b / 2 ^ i % 2 + b / 2 ^ ((i + 4) % 8) % 2 + b / 2 ^ ((i + 5) % 8) % 2 + b / 2 ^ ((i + 6) % 8) % 2 + b / 2 ^ ((i + 7) % 8) % 2 + 99 / 2 ^ i % 2
def rbox (b : Nat) : Nat → Nat
  | 0 => 0
  | k + 1 => rbox b k + sumB b k % 2 * 2 ^ k
theorem rbox_lt (b k : Nat) : rbox b k < 2 ^ k := by
  induction k with
  | zero => exact (by decide : (0 : Nat) < 1)
  | succ k ih =>
    rw [rbox, Nat.pow_succ]
    rcases Nat.mod_two_eq_zero_or_one (sumB b k) with h | h <;> rw [h] <;> omega
theorem rbox_is {b : Nat} (h : b < 256) : rbox b 8 = boxI b := by
  have key : ∀ b, b < 256 → rbox b 8 = boxI b := by decide +kernel
  exact key b h
theorem box_of {a : Nat} (h : a < 256) : boxI (inv a) = box a := (box_all a h).1
theorem box_lt {a : Nat} (h : a < 256) : box a < 256 := (box_all a h).2.1
theorem rbox_inv {a : Nat} (h : a < 256) : rbox (inv a) 8 = box a := by rw [rbox_is (inv_lt h), box_of h]
end Go.Proofs.Ytcecjoodlmpgnaa
/- Blocks, words and keys in plain lists of bytes: nothing of the program. -/
namespace Go.Proofs.Ytcecjoodlmpgnaa

/-- A byte's box, product, and a power of 2. -/
def box8 (b : UInt8) : UInt8 := UInt8.ofNat (box b.toNat)
def mul8 (a b : UInt8) : UInt8 := UInt8.ofNat (cm a.toNat b.toNat)
def pw8 (n : Nat) : UInt8 := UInt8.ofNat (pw 2 n)
theorem ofNat_nat {n : Nat} (h : n < 256) : (UInt8.ofNat n).toNat = n := by simp; omega
theorem box8_nat (b : UInt8) : (box8 b).toNat = box b.toNat := ofNat_nat (box_lt b.toNat_lt)
theorem mul8_nat (a b : UInt8) : (mul8 a b).toNat = cm a.toNat b.toNat := ofNat_nat (cm_lt _ a.toNat_lt)
theorem pw8_nat (n : Nat) : (pw8 n).toNat = pw 2 n := ofNat_nat (pw_lt (by omega) n)
theorem box8_inj {a b : UInt8} (h : box8 a = box8 b) : a = b := by
  apply UInt8.toNat_inj.1
  exact box_inj a.toNat_lt b.toNat_lt (by rw [← box8_nat, ← box8_nat, h])
def mixB (a b c d : UInt8) : UInt8 := mul8 a 2 ^^^ mul8 b 3 ^^^ c ^^^ d
def xorW (A B : List UInt8) : List UInt8 := tab 4 fun i => ub A i ^^^ ub B i
def boxW (A : List UInt8) : List UInt8 := tab 4 fun i => box8 (ub A i)
def mixW (A : List UInt8) : List UInt8 := tab 4 fun r => mixB (ub A r) (ub A ((r + 1) % 4)) (ub A ((r + 2) % 4)) (ub A ((r + 3) % 4))
/-- A block's column, or a key's word. -/
def colG (G : List UInt8) (c : Nat) : List UInt8 := tab 4 fun r => ub G (4 * c + r)
def boxG (G : List UInt8) : List UInt8 := tab 16 fun i => box8 (ub G i)
def turnG (G : List UInt8) : List UInt8 := tab 16 fun i => ub G (4 * ((i / 4 + i % 4) % 4) + i % 4)
def mixG (G : List UInt8) : List UInt8 := tab 16 fun i => ub (mixW (colG G (i / 4))) (i % 4)
def keyG (G K : List UInt8) : List UInt8 := tab 16 fun i => ub G i ^^^ ub K i
theorem boxG_len (G : List UInt8) : (boxG G).length = 16 := tab_len _ _
theorem turnG_len (G : List UInt8) : (turnG G).length = 16 := tab_len _ _
theorem mixG_len (G : List UInt8) : (mixG G).length = 16 := tab_len _ _
theorem keyG_len (G K : List UInt8) : (keyG G K).length = 16 := tab_len _ _

/-- The word ahead of word i, as word i is made of it. -/
def scrW (W : List UInt8) (i own : Nat) : List UInt8 :=
  if i % own = 0 then [box8 (ub W 1) ^^^ pw8 (i / own - 1), box8 (ub W 2), box8 (ub W 3), box8 (ub W 0)]
  else if own = 8 ∧ i % own = 4 then boxW W else W
def nextW (F : List UInt8) (i own : Nat) : List UInt8 := xorW (colG F (i - own)) (scrW (colG F (i - 1)) i own)
/-- A key's bytes, and so many words behind them. -/
def kwN (key : List UInt8) (own : Nat) : Nat → List UInt8
  | 0 => key
  | j + 1 => kwN key own j ++ nextW (kwN key own j) (own + j) own
theorem nextW_len (F : List UInt8) (i own : Nat) : (nextW F i own).length = 4 := tab_len _ _
theorem kwN_len (key : List UInt8) (own : Nat) (h : key.length = 4 * own) (j : Nat) : (kwN key own j).length = 4 * (own + j) := by
  induction j with
  | zero => exact h
  | succ j ih => rw [kwN, List.length_append, ih, nextW_len]; omega
/-- All of a key's round keys, one behind the other. -/
def keysF (key : List UInt8) : List UInt8 := kwN key (key.length / 4) (3 * (key.length / 4) + 28)
def keyAt (F : List UInt8) (i : Nat) : List UInt8 := tab 16 fun j => ub F (16 * i + j)
def roundE (last : Nat) (F s : List UInt8) (i : Nat) : List UInt8 :=
  if i = 0 then keyG s (keyAt F 0)
  else if i = last then keyG (turnG (boxG s)) (keyAt F i)
  else keyG (mixG (turnG (boxG s))) (keyAt F i)
def encN (last : Nat) (F s : List UInt8) : Nat → List UInt8
  | 0 => s
  | k + 1 => roundE last F (encN last F s k) k
def encL (key block : List UInt8) : List UInt8 := encN (key.length / 4 + 6) (keysF key) block (key.length / 4 + 7)
theorem roundE_len (last : Nat) (F s : List UInt8) (i : Nat) : (roundE last F s i).length = 16 := by
  unfold roundE
  split
  · exact keyG_len _ _
  · split <;> exact keyG_len _ _
theorem encN_len (last : Nat) (F s : List UInt8) (h : s.length = 16) (k : Nat) : (encN last F s k).length = 16 := by
  cases k with
  | zero => exact h
  | succ k => exact roundE_len _ _ _ _
theorem keysF_len (key : List UInt8) (h : key.length = 16 ∨ key.length = 32) : (keysF key).length = 16 * (key.length / 4 + 7) := by
  rw [keysF, kwN_len _ _ (by omega)]
  omega
end Go.Proofs.Ytcecjoodlmpgnaa
/- The contract of double. -/
namespace Go.Proofs.Ytcecjoodlmpgnaa
open Go.RowKit

theorem ret_u8 {a b : Nat} (h : a = b) : Ending.returned (.int .u8 (a : Int)) = .returned (.int .u8 (b : Int)) := by rw [h]
theorem dbl_lo {a : Nat} (h : a < 128) : dbl a = a * 2 := by
  have key : ∀ a, a < 128 → dbl a = a * 2 := by decide +kernel
  exact key a h
theorem dbl_hi {a : Nat} (h : 128 ≤ a) (h2 : a < 256) : dbl a = ((a - 128) * 2) ^^^ 27 := by
  have key : ∀ a, a < 128 → dbl (a + 128) = (a * 2) ^^^ 27 := by decide +kernel
  have := key (a - 128) (by omega)
  rwa [Nat.sub_add_cancel h] at this
set_option maxRecDepth 100000 in
set_option maxHeartbeats 1000000 in
theorem dbl_any (a : Nat) (w : World) (ha : (a : Int) < 256) :
    Calls Try.prog 81 #[.int .u8 (a : Int)] w fun e w' => e = .returned (.int .u8 (dbl a : Nat)) ∧ w = w' := by
  by_cases h : a < 128
  · have h1 : ((a : Int) / 128 == 0) = true := by simp; omega
    have h2 : ((a : Int) / 128 != 0) = false := by simp; omega
    have H := Lib.hid (dbl_lo h)
    have h3 : (a : Int) < 128 := by omega
    clear h
    go_enter Try.func81, Try.ntmps81
    go_wp2
    go_ret
    rw [H.out]
    exact ⟨by simp, rfl⟩
  · have h1 : ((a : Int) / 128 == 0) = false := by simp; omega
    have h2 : ((a : Int) / 128 != 0) = true := by simp; omega
    have H : Hid (((dbl a : Nat) : Int) = bits .xor .u8 ((a : Int) * 2 % 256) 27) := Lib.hid (by
      rw [dbl_hi (by omega) (by omega), show ((a : Int) * 2 % 256) = (((a - 128) * 2 : Nat) : Int) by omega]
      exact (u8_xor_nat ((a - 128) * 2) 27 (by omega) (by omega)).symm)
    have h3 : (128 : Int) ≤ (a : Int) := by omega
    clear h
    go_enter Try.func81, Try.ntmps81
    go_wp2
    go_ret
    rw [H.out]
    exact ⟨rfl, rfl⟩
end Go.Proofs.Ytcecjoodlmpgnaa
/- The contract of Mul: two bytes' product. -/
namespace Go.Proofs.Ytcecjoodlmpgnaa
open Go.RowKit

theorem and1_u8 (b : Nat) (h : b < 256) : bits .and .u8 (b : Int) 1 = ((b % 2 : Nat) : Int) := by
  have h1 := u8_and_nat b 1 h (by omega)
  rw [Nat.and_one_is_mod] at h1
  exact h1
set_option maxRecDepth 100000 in
set_option maxHeartbeats 1000000 in
theorem mul_any (a b : Nat) (w : World) (ha : (a : Int) < 256) (hb : (b : Int) < 256) :
    Calls Try.prog 61 #[.int .u8 (a : Int), .int .u8 (b : Int)] w fun e w' => e = .returned (.int .u8 (cm a b : Nat)) ∧ w = w' := by
  have HC : Hid (mulF 8 0 a b = cm a b) := Lib.hid (by rw [mulF_is, Nat.zero_xor]; rfl)
  go_enter Try.func61, Try.ntmps61
  go_wp2_with fail
  go_loop [0, 1, 5] (fun av bv pv => ∃ k p x y : Nat, y < 2 ^ k ∧ k ≤ 8 ∧ av = .int .u8 (x : Int) ∧ bv = .int .u8 (y : Int) ∧ pv = .int .u8 (p : Int) ∧ (x : Int) < 256 ∧ (p : Int) < 256 ∧ (y : Int) < 256 ∧ Hid (mulF k p x y = cm a b)) (fun _ bv _ => (intOf bv).toNat)
  case atStart => exact ⟨8, 0, a, b, by omega, Nat.le_refl _, rfl, rfl, rfl, by omega, by omega, by omega, HC⟩
  case round =>
    clear HC
    obtain ⟨k, p, x, y, hy, hk, rfl, rfl, rfl, hx, hp, hyy, HF⟩ := hrel
    by_cases h0 : y = 0
    · subst h0
      have HE : Hid (cm a b = p) := Lib.hid (by rw [← HF.out, mulF_zero])
      go_wp2_with fail
      go_ret
      rw [HE.out]
      exact ⟨rfl, rfl⟩
    · obtain ⟨j, rfl⟩ : ∃ j, k = j + 1 := ⟨k - 1, by
        cases k with
        | zero => simp at hy; omega
        | succ k => rfl⟩
      have hy2 : y / 2 < 2 ^ j := by rw [Nat.pow_succ] at hy; omega
      have hand := and1_u8 y (by omega)
      have hy0 : ((y : Int) == 0) = false := by simp; omega
      have hy1 : ((y : Int) != 0) = true := by simp; omega
      have hlt := dbl_lt x
      have hlt' : ((dbl x : Nat) : Int) < 256 := by omega
      have HD := Lib.hid (dbl_any x w hx)
      have hpos : 0 < y := by omega
      clear hlt hy
      rcases Nat.mod_two_eq_zero_or_one y with hm | hm
      · rw [hm] at hand
        have HE : Hid (mulF j p (dbl x) (y / 2) = cm a b) := Lib.hid (by
          rw [← HF.out, mulF, Nat.testBit_eq_decide_div_mod_eq]; simp [hm, sel])
        have HM := Lib.hid hm
        clear hm h0
        go_wp2_with fail
        refine HD.out.mono ?_
        rintro e w1 ⟨rfl, rfl⟩
        go_wp2_with fail
        exact ⟨⟨j, p, dbl x, y / 2, hy2, by omega, rfl, by simp, rfl, hlt', hp, by omega, HE⟩, by simp [intOf]; omega⟩
      · rw [hm] at hand
        have hq : p ^^^ x < 256 := xor_lt8 (by omega) (by omega)
        have hxor := u8_xor_nat p x (by omega) (by omega)
        have HE : Hid (mulF j (p ^^^ x) (dbl x) (y / 2) = cm a b) := Lib.hid (by
          rw [← HF.out, mulF, Nat.testBit_eq_decide_div_mod_eq]; simp [hm, sel])
        have hq' : ((p ^^^ x : Nat) : Int) < 256 := by omega
        obtain ⟨q, hqq⟩ : ∃ q, p ^^^ x = q := ⟨_, rfl⟩
        rw [hqq] at hxor HE hq'
        have HM := Lib.hid hm
        clear hm h0 hq hqq
        go_wp2_with fail
        refine HD.out.mono ?_
        rintro e w1 ⟨rfl, rfl⟩
        go_wp2_with fail
        exact ⟨⟨j, q, dbl x, y / 2, hy2, by omega, rfl, by simp, rfl, hlt', hq', by omega, HE⟩, by simp [intOf]; omega⟩
end Go.Proofs.Ytcecjoodlmpgnaa
/- The contracts of Pow and Inv. -/
namespace Go.Proofs.Ytcecjoodlmpgnaa
open Go.RowKit

theorem bitLen_cov (x : Nat) (h : x < 2 ^ 64) : x < 2 ^ Lib.bitLen x := by
  have key : ∀ f x, x < 2 ^ f → x < 2 ^ Lib.bitLenAux f x := by
    intro f
    induction f with
    | zero => intro x h; exact h
    | succ f ih =>
      intro x h
      rw [Lib.bitLenAux]
      split
      · omega
      · have := ih (x / 2) (by rw [Nat.pow_succ] at h; omega)
        rw [Nat.add_comm 1, Nat.pow_succ]
        omega
  exact key 64 x h
theorem and1_i64 (b : Nat) (h : b < 9223372036854775808) : bits .and .i64 (b : Int) 1 = ((b % 2 : Nat) : Int) := by
  have h1 := (bits_nat .i64 63 (by decide) (fun n h0 h1 => by rw [IntKind.wrap_i64]; omega) b 1 h (by omega)).1
  rw [Nat.and_one_is_mod] at h1
  exact h1

set_option maxRecDepth 100000 in
set_option maxHeartbeats 1000000 in
theorem len_any (n : Nat) (w : World) (hn : (n : Int) ≤ 9223372036854775807) :
    Calls Try.prog 92 #[.int .u64 (n : Int)] w fun e w' => e = .returned (.int .i64 (Lib.bitLen n : Nat)) ∧ w = w' := by
  have H := Lib.hid (len64_any (n : Int) w (by omega) (by omega))
  go_enter Try.func92, Try.ntmps92
  go_wp2_with fail
  refine H.out.mono ?_
  rintro e w' ⟨rfl, rfl⟩
  go_wp2_with fail
  go_ret
  exact ⟨rfl, rfl⟩

set_option maxRecDepth 100000 in
set_option maxHeartbeats 2000000 in
theorem pow_any (a : Nat) (n : Int) (w : World) (ha : (a : Int) < 256) (hn : n ≤ 9223372036854775807) (hn0 : -9223372036854775808 ≤ n) :
    Calls Try.prog 80 #[.int .u8 (a : Int), .int .i64 n] w fun e w' => e = .returned (.int .u8 (pw a n.toNat : Nat)) ∧ w = w' := by
  have ha' : a < 256 := by omega
  obtain ⟨m, hm⟩ : ∃ m : Nat, n.toNat = m := ⟨_, rfl⟩
  have hmx : max n 0 = (m : Int) := by omega
  have hmb : (m : Int) ≤ 9223372036854775807 := by omega
  have hL := bitLen_cov m (by omega)
  have hL2 := Lib.bitLen_le m 63 (by omega) (by omega)
  have HL := Lib.hid (len_any m w hmb)
  obtain ⟨L, hLL⟩ : ∃ L, Lib.bitLen m = L := ⟨_, rfl⟩
  rw [hLL] at hL hL2 HL
  rw [hm]
  have HN : Hid (L = 0 ∨ n = (m : Int)) := Lib.hid (by
    by_cases h : 0 ≤ n
    · right; omega
    · left
      have : m = 0 := by omega
      subst this
      rw [← hLL]
      rfl)
  clear hLL hm
  go_enter Try.func80, Try.ntmps80
  go_wp2_with fail
  refine HL.out.mono ?_
  rintro e w' ⟨rfl, rfl⟩
  clear hmx
  have H0 : Hid (pw a (m % 2 ^ 0) = 1) := Lib.hid (by simp [Nat.mod_one, pw])
  have H1 : Hid (pw a (2 ^ 0) = a) := Lib.hid (pw_one ha')
  go_wp2_with fail
  go_loop [5, 6, 13] (fun pv sv iv => ∃ k p s : Nat, k ≤ L ∧ pv = .int .u8 (p : Int) ∧ sv = .int .u8 (s : Int) ∧ iv = .int .i64 (k : Int) ∧ (p : Int) < 256 ∧ (s : Int) < 256 ∧ Hid (pw a (m % 2 ^ k) = p) ∧ Hid (pw a (2 ^ k) = s)) (fun _ _ iv => L - (intOf iv).toNat)
  case atStart => exact ⟨0, 1, a, Nat.zero_le _, rfl, rfl, rfl, by omega, by omega, H0, H1⟩
  case round =>
    clear H0 H1
    obtain ⟨k, p, s, hk, rfl, rfl, rfl, hp, hs, HP, HS⟩ := hrel
    by_cases hlt : k < L
    · have HX := Lib.hid (pw_bit ha' m k)
      have HY := Lib.hid (pw_sq ha' k)
      rw [HP.out, HS.out] at HX
      rw [HS.out] at HY
      have hnm : n = (m : Int) := by
        rcases HN.out with h | h
        · omega
        · exact h
      subst hnm
      have hq : m / 2 ^ k ≤ 9223372036854775807 := Nat.le_trans (Nat.div_le_self _ _) (by omega)
      have hsh : (m : Int) / 2 ^ k = ((m / 2 ^ k : Nat) : Int) := by simp
      obtain ⟨q, hqq⟩ : ∃ q, m / 2 ^ k = q := ⟨_, rfl⟩
      rw [hqq] at hsh hq
      have hand := and1_i64 q (by omega)
      have HB : Hid (m.testBit k = decide (q % 2 = 1)) := Lib.hid (by rw [Nat.testBit_eq_decide_div_mod_eq, hqq])
      have hps := cm_lt (a := p) s (by omega)
      have hss := cm_lt (a := s) s (by omega)
      have hps' : ((cm p s : Nat) : Int) < 256 := by omega
      have hss' : ((cm s s : Nat) : Int) < 256 := by omega
      have HM := Lib.hid (mul_any p s w hp hs)
      have HM2 := Lib.hid (mul_any s s w hs hs)
      have hk63 : k ≤ 62 := by omega
      clear hps hss hqq HN hL
      rcases Nat.mod_two_eq_zero_or_one q with hm | hm
      · rw [hm] at hand
        rw [HB.out, hm] at HX
        have HE : Hid (pw a (m % 2 ^ (k + 1)) = p) := Lib.hid (by rw [HX.out]; simp)
        clear hm HX HB
        go_wp2_with fail
        refine HM2.out.mono ?_
        rintro e w1 ⟨rfl, rfl⟩
        go_wp2_with fail
        exact ⟨⟨k + 1, p, cm s s, by omega, rfl, rfl, by go_num, hp, hss', HE, HY⟩, by simp [intOf]; omega⟩
      · rw [hm] at hand
        rw [HB.out, hm] at HX
        have HE : Hid (pw a (m % 2 ^ (k + 1)) = cm p s) := Lib.hid (by rw [HX.out]; simp)
        clear hm HX HB
        go_wp2_with fail
        refine HM.out.mono ?_
        rintro e w1 ⟨rfl, rfl⟩
        go_wp2_with fail
        refine HM2.out.mono ?_
        rintro e w1 ⟨rfl, rfl⟩
        go_wp2_with fail
        exact ⟨⟨k + 1, cm p s, cm s s, by omega, rfl, rfl, by go_num, hps', hss', HE, HY⟩, by simp [intOf]; omega⟩
    · obtain rfl : k = L := by omega
      have HE : Hid (pw a m = p) := Lib.hid (by rw [← HP.out, Nat.mod_eq_of_lt hL])
      go_wp2_with fail
      go_ret
      rw [HE.out]
      exact ⟨rfl, rfl⟩

set_option maxRecDepth 100000 in
set_option maxHeartbeats 1000000 in
theorem inv_any (a : Nat) (w : World) (ha : (a : Int) < 256) :
    Calls Try.prog 60 #[.int .u8 (a : Int)] w fun e w' => e = .returned (.int .u8 (inv a : Nat)) ∧ w = w' := by
  have H := Lib.hid (pow_any a 254 w ha (by omega) (by omega))
  have HE : Hid (pw a (Int.toNat 254) = inv a) := Lib.hid (pw_254 (by omega))
  go_enter Try.func60, Try.ntmps60
  go_wp2_with fail
  refine H.out.mono ?_
  rintro e w' ⟨rfl, rfl⟩
  rw [HE.out]
  go_wp2_with fail
  go_ret
  exact ⟨rfl, rfl⟩
end Go.Proofs.Ytcecjoodlmpgnaa
/- The contracts of the reference: Bit, pow, Mul, Inv, Pow. -/
namespace Go.Proofs.Ytcecjoodlmpgnaa
open Go.RowKit

theorem xor_i64 (a b : Nat) (ha : a < 32768) (hb : b < 32768) : bits .xor .i64 (a : Int) (b : Int) = ((a ^^^ b : Nat) : Int) := by
  have h := xor_lt15 ha hb
  show IntKind.i64.wrap ((BitVec.ofInt 64 (a : Int) ^^^ BitVec.ofInt 64 (b : Int)).toNat : Nat) = _
  rw [BitVec.ofInt_natCast, BitVec.ofInt_natCast, BitVec.toNat_xor, BitVec.toNat_ofNat, BitVec.toNat_ofNat, Nat.mod_eq_of_lt (by omega), Nat.mod_eq_of_lt (by omega), IntKind.wrap_i64]
  omega

theorem longN_bit (a b k : Nat) : longN a b (k + 1) = if b / 2 ^ k % 2 = 1 then longN a b k ^^^ (a * 2 ^ k) else longN a b k := by
  rw [longN, Nat.testBit_eq_decide_div_mod_eq]
  by_cases h : b / 2 ^ k % 2 = 1 <;> simp [h, sel]
theorem leftN_bit (n j : Nat) : leftN n (j + 1) = if leftN n j / 2 ^ (14 - j) % 2 = 1 then leftN n j ^^^ (283 * 2 ^ (6 - j)) else leftN n j := by
  rw [leftN, Nat.testBit_eq_decide_div_mod_eq]
  by_cases h : leftN n j / 2 ^ (14 - j) % 2 = 1 <;> simp [h, sel]

end Go.Proofs.Ytcecjoodlmpgnaa
/- The contract of the reference's Mul. -/
namespace Go.Proofs.Ytcecjoodlmpgnaa
open Go.RowKit

end Go.Proofs.Ytcecjoodlmpgnaa
/- The contracts of RotateLeft8, boxOf and Box. -/
namespace Go.Proofs.Ytcecjoodlmpgnaa
open Go.RowKit

theorem neg_mask7 (n : Nat) (h1 : 1 ≤ n) (h2 : n ≤ 7) : bits .and .u64 (IntKind.u64.wrap (-(n : Int))) 7 = ((8 - n : Nat) : Int) := by
  have key : ∀ n : Fin 8, 1 ≤ n.val → bits .and .u64 (IntKind.u64.wrap (-(n.val : Int))) 7 = ((8 - n.val : Nat) : Int) := by decide +kernel
  exact key ⟨n, by omega⟩ h1

set_option maxRecDepth 100000 in
set_option maxHeartbeats 1000000 in
theorem rot_any (x n : Nat) (w : World) (hx : (x : Int) < 256) (h1 : 1 ≤ n) (h2 : n ≤ 7) :
    Calls Try.prog 79 #[.int .u8 (x : Int), .int .i64 (-(n : Int))] w fun e w' => e = .returned (.int .u8 (rot x n : Nat)) ∧ w = w' := by
  have hm := neg_mask7 n h1 h2
  go_enter Try.func79, Try.ntmps79
  go_wp2
  go_ret
  refine ⟨?_, rfl⟩
  have e1 : (x : Int) / 2 ^ (8 - (8 - n)) = ((x / 2 ^ n : Nat) : Int) := by rw [show 8 - (8 - n) = n by omega]; simp
  have e2 : (x : Int) * 2 ^ (8 - n) % 256 = ((x * 2 ^ (8 - n) % 256 : Nat) : Int) := by simp
  have e3 : bits .or .u8 ((x : Int) * 2 ^ (8 - n) % 256) ((x : Int) / 2 ^ (8 - (8 - n))) = ((rot x n : Nat) : Int) := by
    rw [e1, e2, u8_or_nat _ _ (Nat.mod_lt _ (by omega)) (Nat.lt_of_le_of_lt (Nat.div_le_self _ _) (by omega)), Nat.or_comm]
    rfl
  rw [← e3]
  rfl

/-- A box, so many turns of it. -/
def turns (b : Nat) : Nat → Nat
  | 0 => b ^^^ 99
  | k + 1 => turns b k ^^^ rot b (k + 4)
theorem turns_lt {b : Nat} (h : b < 256) (k : Nat) : turns b k < 256 := by
  induction k with
  | zero => exact xor_lt8 h (by omega)
  | succ k ih => exact xor_lt8 ih (rot_lt _ h)

set_option maxRecDepth 100000 in
set_option maxHeartbeats 1000000 in
theorem boxOf_any (b : Nat) (w : World) (hb : (b : Int) < 256) :
    Calls Try.prog 59 #[.int .u8 (b : Int)] w fun e w' => e = .returned (.int .u8 (boxI b : Nat)) ∧ w = w' := by
  have h99 := u8_xor_nat b 99 (by omega) (by omega)
  have HT : Hid (turns b 0 = b ^^^ 99) := Lib.hid rfl
  have HX : Hid (turns b 4 = boxI b) := Lib.hid rfl
  have hlt : ((b ^^^ 99 : Nat) : Int) < 256 := by have := xor_lt8 (a := b) (b := 99) (by omega) (by omega); omega
  obtain ⟨q, hq⟩ : ∃ q, b ^^^ 99 = q := ⟨_, rfl⟩
  rw [hq] at h99 hlt HT
  have h99' : bits .xor .u8 (b : Int) 99 = (q : Int) := h99
  clear hq h99
  go_enter Try.func59, Try.ntmps59
  go_wp2_with fail
  go_loop [3, 4] (fun ov iv => ∃ k o : Nat, k ≤ 4 ∧ ov = .int .u8 (o : Int) ∧ iv = .int .i64 ((k + 4 : Nat) : Int) ∧ (o : Int) < 256 ∧ Hid (turns b k = o)) (fun _ iv => 8 - (intOf iv).toNat)
  case atStart => exact ⟨0, q, by omega, rfl, rfl, hlt, HT⟩
  case round =>
    clear HT h99' hlt
    obtain ⟨k, o, hk, rfl, rfl, ho, HK⟩ := hrel
    by_cases hlt : k < 4
    · have HR := Lib.hid (rot_any b (k + 4) w hb (by omega) (by omega))
      have hrl := rot_lt (b := b) (k + 4) (by omega)
      have hxor := u8_xor_nat o (rot b (k + 4)) (by omega) hrl
      have HS : Hid (turns b (k + 1) = o ^^^ rot b (k + 4)) := Lib.hid (by rw [turns, HK.out])
      have hol := xor_lt8 (a := o) (by omega) hrl
      obtain ⟨r, hr⟩ : ∃ r, rot b (k + 4) = r := ⟨_, rfl⟩
      rw [hr] at hxor HS hol HR
      obtain ⟨o2, ho2⟩ : ∃ r2, o ^^^ r = r2 := ⟨_, rfl⟩
      rw [ho2] at hxor HS hol
      have hol' : (o2 : Int) < 256 := by omega
      clear hr ho2 hrl hol
      obtain ⟨j, hj⟩ : ∃ j, k + 4 = j := ⟨_, rfl⟩
      rw [hj] at HR
      rw [hj]
      have hj1 : 4 ≤ j := by omega
      have hj2 : j < 8 := by omega
      have HJ := Lib.hid hj
      clear hj
      go_wp2_with fail
      refine HR.out.mono ?_
      rintro e w1 ⟨rfl, rfl⟩
      go_wp2_with fail
      exact ⟨⟨k + 1, o2, by omega, rfl, by have := HJ.out; rw [← this]; go_num, hol', HS⟩, by simp [intOf]; omega⟩
    · obtain rfl : k = 4 := by omega
      have HE : Hid (boxI b = o) := Lib.hid (by rw [← HX.out, HK.out])
      go_wp2_with fail
      go_ret
      rw [HE.out]
      exact ⟨rfl, rfl⟩

theorem boxI_lt {b : Nat} (h : b < 256) : boxI b < 256 := turns_lt h 4
end Go.Proofs.Ytcecjoodlmpgnaa
/- The contracts of the reference's Inv, Pow and Box. -/
namespace Go.Proofs.Ytcecjoodlmpgnaa
open Go.RowKit

end Go.Proofs.Ytcecjoodlmpgnaa
