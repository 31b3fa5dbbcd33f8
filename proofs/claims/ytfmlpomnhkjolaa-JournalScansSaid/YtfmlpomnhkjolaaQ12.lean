/- Texts of this seat, one behind the other: CSplit. -/
import Derived.Test.YtfmlpomnhkjolaaQ03
/- Contracts of areKinds and Split. -/
namespace Go.Proofs.Ytfmlpomnhkjolaa
open Go.RowKit

/-- What bytes tell, of kinds that may be: the fields, or where and why not. -/
def splitGo (s : List UInt8) : List UInt8 → Nat → List Fld → List Fld × Nat × Int
  | [], n, acc => if n < s.length then ([], n, 10) else (acc, 0, 0)
  | k :: ks, n, acc => match fsz s n k with
    | none => ([], n, 10)
    | some z => splitGo s ks (n + z) (acc ++ [fldAt s n k])

theorem not_kind {c : UInt8} (h : ¬ Kind c) : ¬ (c.toNat : Int) = 110 ∧ ¬ (c.toNat : Int) = 116 := by
  constructor
  · intro e
    exact h (.inl (UInt8.toNat_inj.1 (Int.ofNat.inj e)))
  · intro e
    exact h (.inr (UInt8.toNat_inj.1 (Int.ofNat.inj e)))

set_option maxRecDepth 100000 in
set_option maxHeartbeats 1000000 in
theorem areKinds_yes (ks : List UInt8) (w : World) (h : ∀ k ∈ ks, Kind k) (hl : (ks.length : Int) ≤ 1048576) :
    Calls Try.prog 73 #[.string ⟨ks.toArray⟩] w fun e w' => e = .returned (.bool true) ∧ w = w' := by
  have hz := size_mk ks
  have H := Lib.hid h
  clear h
  go_enter Try.func73, Try.ntmps73
  go_wp2_with fail
  go_loop [6] (fun iv => ∃ k : Nat, k ≤ ks.length ∧ iv = .int .i64 k) (fun i => ks.length - (intOf i).toNat)
  case atStart => exact ⟨0, Nat.zero_le _, rfl⟩
  case round =>
    obtain ⟨k, hk, rfl⟩ := hrel
    by_cases hlt : k < ks.length
    · have hkd := H.out _ (List.getElem_mem hlt)
      have hget := get_mk ks k (by rw [hz]; exact hlt)
      rcases hkd with hc | hc
      · rw [hc] at hget
        clear hc
        go_wp2
        exact ⟨⟨k + 1, by omega, by go_num⟩, by simp [intOf]; omega⟩
      · rw [hc] at hget
        clear hc
        go_wp2
        exact ⟨⟨k + 1, by omega, by go_num⟩, by simp [intOf]; omega⟩
    · obtain rfl : k = ks.length := by omega
      go_wp2
      go_ret
      exact ⟨rfl, rfl⟩

set_option maxRecDepth 100000 in
set_option maxHeartbeats 1000000 in
theorem areKinds_no (ks : List UInt8) (w : World) (b : Nat) (hb : b < ks.length) (h : ∀ k ∈ ks.take b, Kind k) (hn : ¬ Kind ks[b]) (hl : (ks.length : Int) ≤ 1048576) :
    Calls Try.prog 73 #[.string ⟨ks.toArray⟩] w fun e w' => e = .returned (.bool false) ∧ w = w' := by
  have hz := size_mk ks
  have H : Hid (∀ k (hk : k < b), Kind (ks[k]'(Nat.lt_trans hk hb))) := fun k hk => h _ (by rw [List.mem_take_iff_getElem]; exact ⟨k, by omega, rfl⟩)
  have HN := Lib.hid hn
  clear h hn
  go_enter Try.func73, Try.ntmps73
  go_wp2_with fail
  go_loop [6] (fun iv => ∃ k : Nat, k ≤ b ∧ iv = .int .i64 k) (fun i => b - (intOf i).toNat)
  case atStart => exact ⟨0, Nat.zero_le _, rfl⟩
  case round =>
    obtain ⟨k, hk, rfl⟩ := hrel
    have hkl : k < ks.length := by omega
    have hget := get_mk ks k (by rw [hz]; exact hkl)
    by_cases hlt : k < b
    · have hkd := H.out k hlt
      rcases hkd with hc | hc
      · rw [hc] at hget
        clear hc
        go_wp2
        exact ⟨⟨k + 1, by omega, by go_num⟩, by simp [intOf]; omega⟩
      · rw [hc] at hget
        clear hc
        go_wp2
        exact ⟨⟨k + 1, by omega, by go_num⟩, by simp [intOf]; omega⟩
    · obtain rfl : k = b := by omega
      have hx := HN.out
      obtain ⟨c, hc⟩ : ∃ c, ks[k] = c := ⟨_, rfl⟩
      rw [hc] at hget hx
      clear hc
      obtain ⟨n1, n2⟩ := not_kind hx
      have m1 : ((c.toNat : Int) != 110) = true := by simpa using n1
      have m2 : ((c.toNat : Int) != 116) = true := by simpa using n2
      clear hx
      go_wp2
      go_ret
      exact ⟨rfl, rfl⟩

/-- What Split hands back. -/
def SplitPost (w : World) (R : List Fld × Nat × Int) (e : Ending) (w' : World) : Prop :=
  ∃ A cap, e = .returned (.tuple #[.slice A R.1.length cap, .int .i64 (R.2.1 : Int), .int .i64 R.2.2]) ∧ FR w' A R.1 ∧ R.1.length ≤ cap ∧ Below w.heap.size w w'
theorem fcells_at (L : List Fld) (j : Nat) (h : j < L.length) : (fcells L)[j * 3]? = some (.bool L[j].1) ∧ (fcells L)[j * 3 + 1]? = some (.int .u64 (L[j].2.1 : Int)) ∧ (fcells L)[j * 3 + 2]? = some (.string ⟨L[j].2.2.toArray⟩) := by
  induction L generalizing j with
  | nil => exact absurd h (Nat.not_lt_zero j)
  | cons x L ih =>
    have e : fcells (x :: L) = [.bool x.1, .int .u64 (x.2.1 : Int), .string ⟨x.2.2.toArray⟩] ++ fcells L := by simp [fcells]
    cases j with
    | zero => rw [e]; simp
    | succ j =>
      have h' : j < L.length := by simpa using h
      obtain ⟨h0, h1, h2⟩ := ih j h'
      rw [e]
      refine ⟨?_, ?_, ?_⟩
      · rw [List.getElem?_append_right (by simp; omega), show (j + 1) * 3 - _ = j * 3 by simp; omega]; exact h0
      · rw [List.getElem?_append_right (by simp; omega), show (j + 1) * 3 + 1 - _ = j * 3 + 1 by simp; omega]; exact h1
      · rw [List.getElem?_append_right (by simp; omega), show (j + 1) * 3 + 2 - _ = j * 3 + 2 by simp; omega]; exact h2
theorem fr_own {W : World} {base : Nat} {v : Value} {L : List Fld} (h : W.ownsRow base 78 3 v L.length (fcells L)) : ∃ A cap, v = .slice A L.length cap ∧ FR W A L ∧ L.length ≤ cap := by
  rcases h.2 with ⟨rfl, h0⟩ | ⟨g, cap, cur, rfl, hg, hh, hle, _⟩
  · have : L = [] := List.eq_nil_of_length_eq_zero h0
    subst this
    exact ⟨none, 0, rfl, FR.nil _ _, Nat.le_refl _⟩
  · refine ⟨some ⟨g, 0, none⟩, cap, rfl, fun j hj => ?_, hle⟩
    obtain ⟨h0, h1, h2⟩ := fcells_at L j hj
    refine ⟨g, 0, rfl, ?_, ?_, ?_⟩
    · rw [Nat.zero_add, h.cellAt (j * 3) (by omega)]; exact h0
    · rw [Nat.zero_add, h.cellAt (j * 3 + 1) (by omega)]; exact h1
    · rw [Nat.zero_add, h.cellAt (j * 3 + 2) (by omega)]; exact h2

theorem split_none {s : List UInt8} {ks : List UInt8} {k n : Nat} {acc : List Fld} {R : List Fld × Nat × Int} (hk : k < ks.length) (h : splitGo s (ks.drop k) n acc = R) (hz : fsz s n ks[k] = none) : R = ([], n, 10) := by
  rw [List.drop_eq_getElem_cons hk, splitGo, hz] at h
  exact h.symm
theorem split_some {s : List UInt8} {ks : List UInt8} {k n z : Nat} {acc : List Fld} {R : List Fld × Nat × Int} (hk : k < ks.length) (h : splitGo s (ks.drop k) n acc = R) (hz : fsz s n ks[k] = some z) : splitGo s (ks.drop (k + 1)) (n + z) (acc ++ [fldAt s n ks[k]]) = R := by
  rw [List.drop_eq_getElem_cons hk, splitGo, hz] at h
  exact h

set_option maxRecDepth 100000 in
set_option maxHeartbeats 4000000 in
theorem split_ok (s ks : List UInt8) (w : World) (R : List Fld × Nat × Int) (hR : splitGo s ks 0 [] = R) (h : ∀ k ∈ ks, Kind k) (hl : ks.length ≤ 60) (hs : (s.length : Int) ≤ 9223372036854775807) :
    Calls Try.prog 62 #[.string ⟨s.toArray⟩, .string ⟨ks.toArray⟩] w (SplitPost w R) := by
  have hz := size_mk ks
  have H := Lib.hid h
  have HR := Lib.hid hR
  clear h hR
  have hRd : Rd (w.alloc (.cells #[.int .i64 0, .string ⟨s.toArray⟩, .slice none 0 0] 116)) w.heap.size s 0 (.slice none 0 0) [] w.heap.size :=
    ⟨Blk.new _ _ _, World.ownsRow_nil _ _ _ _, Nat.zero_le _⟩
  have HRD := Lib.hid hRd
  clear hRd
  go_enter Try.func62, Try.ntmps62
  go_wp2_with fail
  refine (areKinds_yes ks _ H.out (by omega)).mono ?_
  rintro e w1 ⟨rfl, rfl⟩
  go_wp2_with fail
  go_loopw [16] (fun iv wr => ∃ (k n : Nat) (v : Value) (acc : List Fld), k ≤ ks.length ∧ iv = .int .i64 k ∧ acc.length = k ∧ Rd wr w.heap.size s n v acc w.heap.size ∧ Hid (splitGo s (ks.drop k) n acc = R) ∧ Below w.heap.size w wr) (fun i _ => ks.length - (intOf i).toNat)
  case atStart => exact ⟨0, 0, _, [], Nat.zero_le _, rfl, rfl, HRD.out, HR, (Below.refl _ _).alloc (Nat.le_refl _) _⟩
  case round =>
    obtain ⟨k, n, v, acc, hk, rfl, hacc, hrd, HS, hb⟩ := hrel
    have HA := Lib.hid hacc
    clear hacc
    by_cases hlt : k < ks.length
    · have hkd := H.out _ (List.getElem_mem hlt)
      have hget := get_mk ks k (by rw [hz]; exact hlt)
      cases hf : fsz s n ks[k] with
      | none =>
        have HN := Lib.hid (split_none hlt HS.out hf)
        have HF := Lib.hid hf
        clear hf
        obtain ⟨c, hc⟩ : ∃ c, ks[k] = c := ⟨_, rfl⟩
        rw [hc] at hget HF hkd
        clear hc
        go_wp2_with fail
        refine (field_none w.heap.size n w.heap.size c s v acc _ hrd hkd HF.out hs).mono ?_
        rintro e w2 ⟨rfl, hrd2, ho⟩
        have P0 := (hrd2.1.at_ (i := 0) rfl).1
        have hb2 : Below w.heap.size w w2 := hb.trans (ho.below (Nat.le_refl _) (Nat.le_refl _) hb.size)
        clear hrd2 ho hb
        go_wp2_with fail
        go_quiet (fail)
        go_wp2
        go_ret3
        rw [HN.out]
        exact ⟨none, 0, rfl, FR.nil _ _, Nat.le_refl _, ⟨hb2.os, hb2.tape, hb2.output, hb2.size, hb2.block⟩⟩
      | some z =>
        have HN := Lib.hid (split_some hlt HS.out hf)
        have HF := Lib.hid hf
        clear hf
        obtain ⟨c, hc⟩ : ∃ c, ks[k] = c := ⟨_, rfl⟩
        rw [hc] at hget HF hkd HN
        clear hc
        go_wp2_with fail
        refine (field_some w.heap.size n z w.heap.size c s v acc _ hrd hkd HF.out hs (by rw [HA.out]; omega) (Nat.le_refl _) hb.size).mono ?_
        rintro e w2 ⟨rfl, ⟨v2, hrd2⟩, hb2⟩
        have hb3 := hb.trans hb2
        go_wp2
        exact ⟨⟨k + 1, n + z, v2, _, by omega, by go_num, by rw [List.length_append, HA.out]; rfl, hrd2, HN, hb3⟩, by simp [intOf]; omega⟩
    · obtain rfl : k = ks.length := by omega
      have hS := HS.out
      rw [List.drop_length, splitGo] at hS
      by_cases hn : n < s.length
      · rw [if_pos hn] at hS
        have HN := Lib.hid hS
        clear hS
        go_wp2_with fail
        refine (done_any w.heap.size n w.heap.size s v acc _ hrd false (by simp; omega)).mono ?_
        rintro e w2 ⟨rfl, q, rfl⟩
        have P0 := ((hrd.drewN q).1.at_ (i := 0) rfl).1
        have hb2 : Below w.heap.size w (wr.drewN q) := ⟨hb.os, hb.tape, hb.output, hb.size, hb.block⟩
        obtain ⟨w2, hw2⟩ : ∃ w2, wr.drewN q = w2 := ⟨_, rfl⟩
        rw [hw2] at P0 hb2 ⊢
        clear hw2 hrd hb
        go_wp2_with fail
        go_quiet (fail)
        go_wp2
        go_ret3
        rw [← HN.out]
        exact ⟨none, 0, rfl, FR.nil _ _, Nat.le_refl _, ⟨hb2.os, hb2.tape, hb2.output, hb2.size, hb2.block⟩⟩
      · rw [if_neg hn] at hS
        have HN := Lib.hid hS
        clear hS
        have hnl : n = s.length := by have := hrd.2.2; omega
        subst hnl
        go_wp2_with fail
        refine (done_any w.heap.size s.length w.heap.size s v acc _ hrd true (by simp)).mono ?_
        rintro e w2 ⟨rfl, q, rfl⟩
        have P2 := ((hrd.drewN q).1.at_ (i := 2) rfl).1
        have hb2 : Below w.heap.size w (wr.drewN q) := ⟨hb.os, hb.tape, hb.output, hb.size, hb.block⟩
        obtain ⟨A, cap, rfl, hF, hc⟩ := fr_own (hrd.drewN q).2.1
        obtain ⟨w2, hw2⟩ : ∃ w2, wr.drewN q = w2 := ⟨_, rfl⟩
        rw [hw2] at P2 hb2 hF ⊢
        clear hw2 hrd hb
        go_wp2
        go_ret3
        rw [← HN.out]
        exact ⟨A, cap, rfl, hF, hc, hb2⟩

set_option maxRecDepth 100000 in
set_option maxHeartbeats 1000000 in
theorem split_bad (s ks : List UInt8) (w : World) (b : Nat) (hb : b < ks.length) (h : ∀ k ∈ ks.take b, Kind k) (hn : ¬ Kind ks[b]) (hl : ks.length ≤ 60) :
    Calls Try.prog 62 #[.string ⟨s.toArray⟩, .string ⟨ks.toArray⟩] w (SplitPost w ([], 0, 1)) := by
  have H := Lib.hid h
  have HN := Lib.hid hn
  clear h hn
  go_enter Try.func62, Try.ntmps62
  go_wp2_with fail
  refine (areKinds_no ks _ b hb H.out HN.out (by omega)).mono ?_
  rintro e w1 ⟨rfl, rfl⟩
  go_wp2
  go_ret3
  exact ⟨none, 0, rfl, FR.nil _ _, Nat.le_refl _, Below.refl _ _⟩
end Go.Proofs.Ytfmlpomnhkjolaa
