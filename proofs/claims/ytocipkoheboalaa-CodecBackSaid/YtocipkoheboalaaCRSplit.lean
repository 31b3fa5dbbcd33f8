/- Contracts of the reference's Split. -/
import Derived.Test.YtocipkoheboalaaCRSize
import Derived.RangeFuncBox
namespace Go.Proofs.Ytocipkoheboalaa
open Go.RowKit

theorem bdn {B : Nat} {a w : World} (h : Below B a w) (n : Nat) : Below B a (w.drewN n) := ⟨h.os, h.tape, h.output, h.size, h.block⟩
/-- What the reference's Split hands back. -/
def RPost (w : World) (R : List Fld × Nat × Int) (e : Ending) (w' : World) : Prop :=
  ∃ A cap, e = .returned (.agg #[.slice A R.1.length cap, .int .i64 (R.2.1 : Int), .int .i64 R.2.2]) ∧ FR w' A R.1 ∧ R.1.length ≤ cap ∧ Below w.heap.size w w'
theorem quiet_left {P : Program} {f : FuncId} {args : Array Value} {w : World} {n : Nat} {v : Value}
    (h : Calls P f args (w.drewN n) fun e w' => e = .returned v ∧ w.drewN n = w') : Calls P f args (w.drewN n) fun e w'' => e = .returned v ∧ ∃ m, w'' = w.drewN m :=
  h.mono fun _ _ ⟨he, hm⟩ => ⟨he, n, hm.symm⟩

set_option maxRecDepth 100000 in
set_option maxHeartbeats 4000000 in
theorem rsplit_bad (s ks : List UInt8) (w : World) (b : Nat) (hb : b < ks.length) (h : ∀ k ∈ ks.take b, Kind k) (hn : ¬ Kind ks[b]) (hl : ks.length ≤ 60) :
    Calls Try.prog 16 #[.string ⟨s.toArray⟩, .string ⟨ks.toArray⟩] w (RPost w ([], 0, 1)) := by
  have hz := size_mk ks
  have H : Hid (∀ k (hk : k < b), Kind (ks[k]'(Nat.lt_trans hk hb))) := fun k hk => h _ (by rw [List.mem_take_iff_getElem]; exact ⟨k, by omega, rfl⟩)
  have HN := Lib.hid hn
  clear h hn
  go_enter Try.func16, Try.ntmps16
  go_wp2_with fail
  go_loop [5] (fun iv => ∃ k : Nat, k ≤ b ∧ iv = .int .i64 k) (fun i => b - (intOf i).toNat)
  case atStart => exact ⟨0, Nat.zero_le _, rfl⟩
  case round =>
    obtain ⟨k, hk, rfl⟩ := hrel
    have hkl : k < ks.length := by omega
    have hget := get_mk ks k (by rw [hz]; exact hkl)
    by_cases hlt : k < b
    · have hkd := H.out k hlt
      rcases hkd with hc | hc
      · rw [hc] at hget
        clear hc
        go_wp2
        exact ⟨⟨k + 1, by omega, by go_num⟩, by simp [intOf]; omega⟩
      · rw [hc] at hget
        clear hc
        go_wp2
        exact ⟨⟨k + 1, by omega, by go_num⟩, by simp [intOf]; omega⟩
    · obtain rfl : k = b := by omega
      have hx := HN.out
      obtain ⟨c, hc⟩ : ∃ c, ks[k] = c := ⟨_, rfl⟩
      rw [hc] at hget hx
      clear hc
      obtain ⟨n1, n2⟩ := not_kind hx
      have m1 : ((c.toNat : Int) != 110) = true := by simpa using n1
      have m2 : ((c.toNat : Int) != 116) = true := by simpa using n2
      clear hx
      go_wp2
      refine bodyPost_ret (v := .agg #[.slice none 0 0, .int .i64 0, .int .i64 1]) (by simp [results, Try.results16, go_sem]) rfl ?_
      exact ⟨none, 0, rfl, FR.nil _ _, Nat.le_refl _, ba (Below.refl _ _) _⟩

theorem owns_empty {w : World} {base g : Nat} {E : TypeId} {z : Nat} (h : w.heap[g]? = some (.cells #[] E (0, 0))) (hb : base ≤ g) : w.ownsRow base E z (.slice (some ⟨g, 0, none⟩) 0 0) 0 [] :=
  ⟨by simp, .inr ⟨g, 0, #[], rfl, hb, h, Nat.le_refl _, Nat.zero_le _, by simp, by simp⟩⟩

set_option maxRecDepth 100000 in
set_option maxHeartbeats 4000000 in
theorem rsplit_ok (s ks : List UInt8) (w : World) (R : List Fld × Nat × Int) (hR : splitGo s ks 0 [] = R) (h : ∀ k ∈ ks, Kind k) (hl : ks.length ≤ 60) (hs : (s.length : Int) ≤ 9223372036854775807) :
    Calls Try.prog 16 #[.string ⟨s.toArray⟩, .string ⟨ks.toArray⟩] w (RPost w R) := by
  obtain ⟨ti, hi0, hz0, hz1, hz2⟩ := info_parts infoF
  have hz := size_mk ks
  have hzs := size_mk s
  have H := Lib.hid h
  have HR := Lib.hid hR
  clear h hR
  have B0 := (Blk.new w 40 #[.slice none 0 0, .int .i64 0, .int .i64 0]).alloc (.cells #[] 33)
  have O0 : ((w.alloc (.cells #[.slice none 0 0, .int .i64 0, .int .i64 0] 40)).alloc (.cells #[] 33)).ownsRow w.heap.size 33 3 (.slice (some ⟨w.heap.size + 1, 0, none⟩) 0 0) 0 [] := owns_empty (Blk.newAt (by simp) _ _) (by omega)
  have HB0 := Lib.hid B0
  have HO0 := Lib.hid O0
  clear B0 O0
  go_enter Try.func16, Try.ntmps16
  go_wp2_with fail
  go_loop [5] (fun iv => ∃ k : Nat, k ≤ ks.length ∧ iv = .int .i64 k) (fun i => ks.length - (intOf i).toNat)
  case atStart => exact ⟨0, Nat.zero_le _, rfl⟩
  case round =>
    obtain ⟨k, hk, rfl⟩ := hrel
    by_cases hlt : k < ks.length
    · have hkd := H.out _ (List.getElem_mem hlt)
      have hget := get_mk ks k (by rw [hz]; exact hlt)
      rcases hkd with hc | hc
      · rw [hc] at hget
        clear hc
        go_wp2
        exact ⟨⟨k + 1, by omega, by go_num⟩, by simp [intOf]; omega⟩
      · rw [hc] at hget
        clear hc
        go_wp2
        exact ⟨⟨k + 1, by omega, by go_num⟩, by simp [intOf]; omega⟩
    · obtain rfl : k = ks.length := by omega
      go_wp2_with fail
      go_loopw [6, 7, 8] (fun ov av iv wr => ∃ (k n g1 c1 : Nat) (acc : List Fld), k ≤ ks.length ∧ iv = .int .i64 k ∧ acc.length = k ∧ av = .int .i64 n ∧ ov = .slice (some ⟨g1, 0, none⟩) k c1 ∧ n ≤ s.length ∧ Blk wr w.heap.size 40 #[.slice none 0 0, .int .i64 0, .int .i64 0] ∧ wr.ownsRow w.heap.size 33 3 (.slice (some ⟨g1, 0, none⟩) k c1) k (fcells acc) ∧ Hid (splitGo s (ks.drop k) n acc = R) ∧ Below w.heap.size w wr) (fun _ _ i _ => ks.length - (intOf i).toNat)
      case atStart => exact ⟨0, 0, _, _, [], Nat.zero_le _, rfl, rfl, rfl, rfl, Nat.zero_le _, HB0.out, HO0.out, HR, ba (ba (Below.refl _ _) _) _⟩
      case round =>
        obtain ⟨k, n, g1, c1, acc, hk, rfl, hacc, rfl, rfl, hn, hB, hown, HS, hb⟩ := hrel
        have hsz : w.heap.size < wr.heap.size := hB.lt
        by_cases hlt : k < ks.length
        · have hkd := H.out _ (List.getElem_mem hlt)
          have hget := get_mk ks k (by rw [hz]; exact hlt)
          have hex := extract_part s n s.length
          have hpd : part s n (s.length - n) = s.drop n := by unfold part; exact List.take_of_length_le (by simp)
          rw [hpd] at hex
          cases hf : fsz s n ks[k] with
          | none =>
            have HN := Lib.hid (split_none hlt HS.out hf)
            have HF := Lib.hid hf
            obtain ⟨c, hc⟩ : ∃ c, ks[k] = c := ⟨_, rfl⟩
            rw [hc] at hget HF hkd hf
            have hsz2 : ∀ W : World, Calls Try.prog 28 #[.string ⟨(s.drop n).toArray⟩, .int .u8 (c.toNat : Int)] W fun e w' => e = .returned (.int .i64 (-1)) ∧ W = w' := fun W => by
              have := size_any s n c W hkd hn hs
              rw [hf] at this
              exact this
            have HQ := Lib.hid hsz2
            have i1 : (n : Int) ≤ (s.length : Int) := by omega
            have i2 : (k : Int) < (ks.length : Int) := by omega
            obtain ⟨q0, f0⟩ : At wr w.heap.size 0 (.slice none 0 0) := hB.at_ rfl
            obtain ⟨q1, f1⟩ : At wr w.heap.size 1 (.int .i64 0) := hB.at_ rfl
            obtain ⟨q2, f2⟩ : At wr w.heap.size 2 (.int .i64 0) := hB.at_ rfl
            have HACC := Lib.hid hacc
            have HBB := Lib.hid hB
            have HOWN := Lib.hid hown
            clear hc hf hsz2 hpd hacc hB hown
            go_wp2_with fail
            go_quiet ((go_at_call 28; exact quiet_left (HQ.out _)))
            go_wp2
            rw [HN.out]
            refine bodyPost_ret (v := .agg #[.slice none 0 0, .int .i64 (n : Int), .int .i64 10]) (by simp [results, Try.results16, go_sem, q0, q1, q2]) rfl ?_
            exact ⟨none, 0, rfl, FR.nil _ _, Nat.le_refl _, bs (bs (bs (bdn hb _) (Nat.le_refl _) _) (Nat.le_refl _) _) (Nat.le_refl _) _⟩
          | some z =>
            have HN := Lib.hid (split_some hlt HS.out hf)
            obtain ⟨c, hc⟩ : ∃ c, ks[k] = c := ⟨_, rfl⟩
            rw [hc] at hget hkd hf HN
            have hsz2 : ∀ W : World, Calls Try.prog 28 #[.string ⟨(s.drop n).toArray⟩, .int .u8 (c.toNat : Int)] W fun e w' => e = .returned (.int .i64 (z : Int)) ∧ W = w' := fun W => by
              have := size_any s n c W hkd hn hs
              rw [hf] at this
              exact this
            have HQ := Lib.hid hsz2
            have i1 : (n : Int) ≤ (s.length : Int) := by omega
            have i2 : (k : Int) < (ks.length : Int) := by omega
            have HACC := Lib.hid hacc
            have HBB := Lib.hid hB
            have HOWN := Lib.hid hown
            clear hsz2 hpd hacc hB hown
            rcases hkd with rfl | rfl
            · have h8 : n + 8 ≤ s.length ∧ z = 8 := by
                simp [fsz] at hf
                omega
              obtain ⟨h8, rfl⟩ := h8
              have hex8 := extract_part s n (n + 8)
              rw [show n + 8 - n = 8 by omega] at hex8
              have hpl := part_len s n 8 h8
              rw [show fldAt s n 110 = (false, val (part s n 8), []) from rfl] at HN
              obtain ⟨S, hS⟩ : ∃ S, part s n 8 = S := ⟨_, rfl⟩
              rw [hS] at hex8 hpl HN
              obtain ⟨V, hV⟩ : ∃ V, val S = V := ⟨_, rfl⟩
              rw [hV] at HN
              have HV := Lib.hid hV
              have HPL := Lib.hid hpl
              clear hf hc hS hV hpl
              go_wp2_with fail
              go_quiet ((go_at_call 28; exact quiet_left (HQ.out _)))
              go_wp2_with fail
              refine (value_any S _ (by rw [HPL.out]; omega)).mono ?_
              rw [HV.out]
              rintro e w2 ⟨rfl, hw⟩
              have hown2 : w2.ownsRow w.heap.size 33 3 (.slice (some ⟨g1, 0, none⟩) k c1) k (fcells acc) := by rw [← hw]; exact HOWN.out
              have hB2 : Blk w2 w.heap.size 40 #[.slice none 0 0, .int .i64 0, .int .i64 0] := by rw [← hw]; exact HBB.out
              have hb2 : Below w.heap.size w w2 := by rw [← hw]; exact bdn hb _
              clear hw
              have hownA := hown2.alloc (.cells #[.bool false, .int .u64 (V : Int), .string ⟨#[]⟩] 33)
              have hnews := World.news_of_block (heap_alloc_new w2 (.cells #[.bool false, .int .u64 (V : Int), .string ⟨#[]⟩] 33))
              have hs2 : w.heap.size ≤ w2.heap.size := hb2.size
              have HB2 := Lib.hid hB2
              clear hB2 hown2
              go_wp2_with (at_builtin; refine wpList_append_own _ rfl (.tmp 49) (.tmp 57) 23 rfl w.heap.size 33 ti _ 3 32 Try.underlying23 hi0 hz0 hz1 hz2 rfl (by decide) _ _ _ rfl hownA ⟨w2.heap.size, 0, none⟩ 1 1 [.bool false, .int .u64 (V : Int), .string ⟨#[]⟩] rfl rfl hnews (by simp [Value.oneCell']) (by unfold maxLen; omega) (by omega) (by simp; omega) ?_; intro v3 w3 hown3 hgrow3 _; obtain ⟨g3, c3, rfl⟩ := ownsRow_succ hown3)
              have hb3 : Below w.heap.size w w3 := (ba hb2 _).grown hgrow3 (by simp; omega) (fun k e => (hownA.lt k e).1)
              have hB3 := (HB2.out.alloc (.cells #[.bool false, .int .u64 (V : Int), .string ⟨#[]⟩] 33)).grown hgrow3 (Ne.symm (own_blk_ne hownA (HB2.out.alloc _) (by decide)))
              exact ⟨⟨k + 1, n + 8, g3, c3, acc ++ [(false, V, [])], by omega, by go_num, by rw [List.length_append, HACC.out]; rfl, by go_num, rfl, h8, hB3, by rw [fcells_snoc]; exact hown3, HN, hb3⟩, by simp [intOf]; omega⟩
            · have h8 : n + 2 ≤ s.length ∧ val (part s n 2) ≤ 4096 ∧ n + 2 + val (part s n 2) ≤ s.length ∧ z = 2 + val (part s n 2) := by
                simp [fsz] at hf
                omega
              rw [show fldAt s n 116 = (true, 0, part s (n + 2) (val (part s n 2))) from rfl] at HN
              obtain ⟨m, hm⟩ : ∃ m, val (part s n 2) = m := ⟨_, rfl⟩
              rw [hm] at h8 HN
              obtain ⟨g1', g2, g3, hzm⟩ := h8
              have hex8 := extract_part s (n + 2) (n + z)
              rw [show n + z - (n + 2) = m by omega] at hex8
              obtain ⟨S, hS⟩ : ∃ S, part s (n + 2) m = S := ⟨_, rfl⟩
              rw [hS] at hex8 HN
              have j1 : n + z ≤ s.length := by omega
              have j2 : 2 ≤ z := by omega
              have j3 : z ≤ 4098 := by omega
              clear hf hc hm hS hzm g1' g2 g3
              go_wp2_with fail
              go_quiet ((go_at_call 28; exact quiet_left (HQ.out _)))
              have hown2 := HOWN.out
              obtain ⟨w2, hw⟩ : ∃ w2, w2 = wr.drewN nq := ⟨_, rfl⟩
              have hown2 : w2.ownsRow w.heap.size 33 3 (.slice (some ⟨g1, 0, none⟩) k c1) k (fcells acc) := by rw [hw]; exact HOWN.out
              have hB2 : Blk w2 w.heap.size 40 #[.slice none 0 0, .int .i64 0, .int .i64 0] := by rw [hw]; exact HBB.out
              have hb2 : Below w.heap.size w w2 := by rw [hw]; exact bdn hb _
              rw [← hw]
              clear hw
              have hownA := hown2.alloc (.cells #[.bool true, .int .u64 0, .string ⟨S.toArray⟩] 33)
              have hnews := World.news_of_block (heap_alloc_new w2 (.cells #[.bool true, .int .u64 0, .string ⟨S.toArray⟩] 33))
              have hs2 : w.heap.size ≤ w2.heap.size := hb2.size
              have HB2 := Lib.hid hB2
              clear hB2 hown2
              go_wp2_with (at_builtin; refine wpList_append_own _ rfl (.tmp 59) (.tmp 68) 23 rfl w.heap.size 33 ti _ 3 32 Try.underlying23 hi0 hz0 hz1 hz2 rfl (by decide) _ _ _ rfl hownA ⟨w2.heap.size, 0, none⟩ 1 1 [.bool true, .int .u64 0, .string ⟨S.toArray⟩] rfl rfl hnews (by simp [Value.oneCell']) (by unfold maxLen; omega) (by omega) (by simp; omega) ?_; intro v3 w3 hown3 hgrow3 _; obtain ⟨g3, c3, rfl⟩ := ownsRow_succ hown3)
              have hb3 : Below w.heap.size w w3 := (ba hb2 _).grown hgrow3 (by simp; omega) (fun k e => (hownA.lt k e).1)
              have hB3 := (HB2.out.alloc (.cells #[.bool true, .int .u64 0, .string ⟨S.toArray⟩] 33)).grown hgrow3 (Ne.symm (own_blk_ne hownA (HB2.out.alloc _) (by decide)))
              exact ⟨⟨k + 1, n + z, g3, c3, acc ++ [(true, 0, S)], by omega, by go_num, by rw [List.length_append, HACC.out]; rfl, by go_num, rfl, j1, hB3, by rw [fcells_snoc]; exact hown3, HN, hb3⟩, by simp [intOf]; omega⟩
        · obtain rfl : k = ks.length := by omega
          have hS := HS.out
          rw [List.drop_length, splitGo] at hS
          obtain ⟨q0, f0⟩ : At wr w.heap.size 0 (.slice none 0 0) := hB.at_ rfl
          obtain ⟨q1, f1⟩ : At wr w.heap.size 1 (.int .i64 0) := hB.at_ rfl
          obtain ⟨q2, f2⟩ : At wr w.heap.size 2 (.int .i64 0) := hB.at_ rfl
          have HACC := Lib.hid hacc
          have HBB := Lib.hid hB
          have HOWN := Lib.hid hown
          clear hacc hB hown
          by_cases hnl : n < s.length
          · rw [if_pos hnl] at hS
            have HN := Lib.hid hS
            clear hS
            go_wp2
            rw [← HN.out]
            refine bodyPost_ret (v := .agg #[.slice none 0 0, .int .i64 (n : Int), .int .i64 10]) (by simp [results, Try.results16, go_sem, q0, q1, q2]) rfl ?_
            exact ⟨none, 0, rfl, FR.nil _ _, Nat.le_refl _, bs (bs (bs hb (Nat.le_refl _) _) (Nat.le_refl _) _) (Nat.le_refl _) _⟩
          · rw [if_neg hnl] at hS
            have HN := Lib.hid hS
            have hne := own_blk_ne HOWN.out HBB.out (by decide)
            have hne1 : g1 ≠ w.heap.size := fun e => hne (by rw [← e]; rfl)
            clear hS
            go_wp2
            rw [← HN.out]
            refine bodyPost_ret (v := .agg #[.slice (some ⟨g1, 0, none⟩) ks.length c1, .int .i64 0, .int .i64 0]) (by simp [results, Try.results16, go_sem, q0, q1, q2]) rfl ?_
            have hown5 := ownsRow_setCell_other (ownsRow_setCell_other (ownsRow_setCell_other HOWN.out (a := ⟨w.heap.size, 0, none⟩) (by simpa [Value.ownBlock] using hne1) (.slice (some ⟨g1, 0, none⟩) ks.length c1)) (a := ⟨w.heap.size, 1, none⟩) (by simpa [Value.ownBlock] using hne1) (.int .i64 0)) (a := ⟨w.heap.size, 2, none⟩) (by simpa [Value.ownBlock] using hne1) (.int .i64 0)
            rw [← HACC.out] at hown5
            obtain ⟨A, cap, hv, hF, hc⟩ := fr_own hown5
            rw [← HACC.out]
            refine ⟨A, cap, ?_, hF, hc, bs (bs (bs hb (Nat.le_refl _) _) (Nat.le_refl _) _) (Nat.le_refl _) _⟩
            rw [hv]
            rfl
end Go.Proofs.Ytocipkoheboalaa
