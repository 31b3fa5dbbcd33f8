/- Union, for every row of spans that may be: the spans of a row of ends with gaps that covers just their numbers; or the error where that is all numbers. -/
import Derived.Test.YtkaenoejfdcokaaCmp
import Derived.Test.YtkaenoejfdcokaaFirst
import Derived.Lib.Hide
namespace Go.Proofs.Ytkaenoejfdcokaa
open Go.RowKit Go.Shelf

set_option maxHeartbeats 1000000 in
theorem joined_any (a : Option Addr) (len cap : Nat) (w : World) :
    Calls Try.prog 39 #[.slice a len cap] w fun e w' => e = .returned (.func (.func 46) #[] #[.pointer (some ⟨w.heap.size, 0, none⟩)]) ∧ w' = w.alloc (.cells #[.slice a len cap] 60) := by
  go_enter Try.func39, Try.ntmps39
  go_wp2
  go_ret
  exact ⟨rfl, rfl⟩
set_option maxHeartbeats 1000000 in
theorem joined0_in (l Bs cap : Nat) (a : Option Addr) (J : List E64 → World → Prop) (W : World) (hBs : W.cell? ⟨Bs, 0, none⟩ = some (.slice a 0 cap)) (h0 : J [] W) :
    CallsIn Fence.wide 5 Try.prog 46 #[.func (.yield l) #[] #[], .pointer (some ⟨Bs, 0, none⟩)] W fun e W' => (∃ v, e = .returned v) ∧ J [] W' := by
  refine callsIn_of_wp Try.func46 rfl trivial ?_ rfl
  simp only [Try.ntmps46, List.size_toArray, List.length_cons, List.length_nil, Nat.reduceAdd, Nat.reduceSub, Array.replicate_succ, Array.replicate_zero, List.push_toArray, List.append_toArray, List.nil_append, List.cons_append]
  gi_wp2
  refine bodyPost_ret (results_none rfl _ _ _) rfl ?_
  exact ⟨⟨_, rfl⟩, h0⟩
theorem enters46 : ∀ args w, (callFunc 46 args).run Try.prog w = .ok (.enter 46 args) w := enters_of Try.func46 (by kernel_rfl) rfl
theorem hands_joined {W : World} {g cap : Nat} {S : List E64} (hg : g < W.heap.size) (hc : S.length ≤ cap) (hm : cap ≤ maxLen) (hS : EndsAt W g 0 S) :
    HandsC 5 46 #[.pointer (some ⟨W.heap.size, 0, none⟩)] (W.alloc (.cells #[.slice (some ⟨g, 0, none⟩) S.length cap] 60)).heap.size (joinE S) (W.alloc (.cells #[.slice (some ⟨g, 0, none⟩) S.length cap] 60)) := by
  intro l J Jx W1 hW hJ _ hY h0
  have hB := Boxed.new W 60 (.slice (some ⟨g, 0, none⟩) S.length cap)
  have hB1 := (boxed_below hB hW).cell
  have hA : Below W.heap.size W (W.alloc (.cells #[.slice (some ⟨g, 0, none⟩) S.length cap] 60)) := (Below.refl _ _).alloc (Nat.le_refl _) _
  have hAW : Below W.heap.size W W1 := hA.trans (hW.mono (by simp))
  cases S with
  | nil => exact (joined0_in l _ _ _ J W1 hB1 h0).mono fun e W' ⟨he, hj⟩ => ⟨he, .inl hj⟩
  | cons x r =>
    refine joined1_in l W.heap.size _ g cap x r hc hm (by simp; omega) J Jx W1 hW.size hJ hY hB1 (by simp) (fun j hj => ?_) h0
    obtain ⟨h1, h2⟩ := hS j hj
    exact ⟨(hAW.cell (p := ⟨g, _, none⟩) hg).trans h1, (hAW.cell (p := ⟨g, _, none⟩) hg).trans h2⟩
theorem sort_is (g cap n : Nat) (zs : List E64) (w : World) (hn : Hid (n = zs.length)) (hH : Go.Sort.HoldsK encE 2 w g 0 zs.toArray) (hg : g < w.heap.size) (hl : n < 4611686018427387904) :
    Calls Try.prog 36 #[.slice (some ⟨g, 0, none⟩) n cap, .func (.func 37) #[] #[]] w (SortPost w g zs) := by
  have h := hn.out
  rw [h] at hl ⊢
  exact sort_any g cap zs w hH hg hl

theorem rowCells_snoc' (L : List (Int × Int)) (x : Int × Int) : rowCells (L ++ [x]) = rowCells L ++ [.int .u64 x.1, .int .u64 x.2] := by simp [rowCells]

/-- What Union leaves. -/
def UnionPost (w : World) (L : List (Int × Int)) (e : Ending) (w' : World) : Prop :=
  ∃ zs : List E64, Gaps zs ∧ (∀ x, cov zs x ↔ covP L x) ∧ zs.length ≤ L.length ∧ SpansPost w zs e w'
theorem mergeE_len (r : List E64) : ∀ x, (mergeE x r).length ≤ r.length + 1 := by
  induction r with
  | nil => intro x; simp [mergeE]
  | cons y r ih =>
    intro x
    unfold mergeE
    split
    · have := ih (join2 x y); simp; omega
    · have := ih y; simp; omega
theorem joinE_len (S : List E64) : (joinE S).length ≤ S.length := by
  cases S with
  | nil => exact Nat.le_refl _
  | cons x r => exact mergeE_len r x
theorem cov_ends {zs : List E64} {L : List (Int × Int)} (h : endPairs zs = L.map endsP) (x : Int) : cov zs x ↔ covP L x := by
  constructor
  · rintro ⟨z, hz, h1, h2⟩
    have : z.1 ∈ L.map endsP := by rw [← h]; exact List.mem_map.2 ⟨z, hz, rfl⟩
    obtain ⟨p, hp, he⟩ := List.mem_map.1 this
    exact ⟨p, hp, by rw [← he] at h1; exact h1, by rw [← he] at h2; exact h2⟩
  · rintro ⟨p, hp, h1, h2⟩
    have : endsP p ∈ endPairs zs := by rw [h]; exact List.mem_map.2 ⟨p, hp, rfl⟩
    obtain ⟨z, hz, he⟩ := List.mem_map.1 this
    exact ⟨z, hz, by rw [he]; exact h1, by rw [he]; exact h2⟩
theorem union_end {w W : World} {L : List (Int × Int)} {zs S : List E64} {e : Ending} {w' : World} (hB : Below w.heap.size w W) (hz : endPairs zs = L.map endsP) (hp : S.Perm zs) (hr : Rising S) (h : SpansPost W (joinE S) e w') : UnionPost w L e w' := by
  obtain ⟨h1, h2⟩ := join_spec S hr
  refine ⟨joinE S, h2, fun x => by rw [h1 x, cov_perm hp x, cov_ends hz x], ?_, ?_⟩
  · have a := joinE_len S
    have b := hp.length_eq
    have c : zs.length = L.length := by have := congrArg List.length hz; simpa [endPairs] using this
    omega
  · obtain ⟨hb, ⟨v, hn, he, ho⟩ | hx⟩ := h
    · exact ⟨bt hB hb, .inl ⟨v, hn, he, ownsRow_mono ho hB.size⟩⟩
    · exact ⟨bt hB hb, .inr hx⟩
theorem spans_ends {w : World} {zs : List E64} {e : Ending} {w' : World} (h : SpansPost w zs e w') : ∃ a k c r, e = .returned (.tuple #[.slice a k c, .int .i64 r]) := by
  obtain ⟨_, ⟨v, _, he, ho⟩ | ⟨_, he⟩⟩ := h
  · obtain ⟨a, k, c, rfl⟩ := ownsRow_slice ho
    exact ⟨a, k, c, 0, he⟩
  · exact ⟨none, 0, 0, 2, he⟩

set_option maxRecDepth 100000 in
set_option maxHeartbeats 4000000 in
theorem union_cons (L : List (Int × Int)) (zs : List E64) (hl : L.length ≤ 4096) (g off c : Nat) (w : World) (hg : g < w.heap.size)
    (Hh : Hid (∀ j (hj : j < L.length), w.cell? ⟨g, off + j * 2, none⟩ = some (.int .u64 L[j].1) ∧ w.cell? ⟨g, off + j * 2 + 1, none⟩ = some (.int .u64 L[j].2)))
    (Ho : Hid (∀ j (hj : j < L.length), OkP L[j])) (HZ : Hid (endPairs zs = L.map endsP)) (HN : Hid (L.length = zs.length)) :
    Calls Try.prog 23 #[.slice (some ⟨g, off, none⟩) L.length c] w (UnionPost w L) := by
  obtain ⟨i1, hi, hz0, hz1, hz2⟩ := info_parts info55
  go_enter Try.func23, Try.ntmps23
  go_wp2_with (at_make; refine wpList_make_own _ rfl _ _ 60 rfl w.heap.size 55 i1 (.agg #[.int .u64 0, .int .u64 0]) 2 Try.underlying60 hi hz0 hz1 .i64 .i64 _ L.length rfl rfl rfl (by rw [hz2]; omega) (by unfold maxLen; omega) (Nat.le_refl _) ?_; intro w0 hown0 hgrow0)
  have hB0 : Below w.heap.size w w0 := (Below.refl _ _).grown hgrow0 (Nat.le_refl _) (fun k e => by cases e)
  go_loopw [4, 14] (fun sv i wr => ∃ k : Nat, k ≤ L.length ∧ i = .int .i64 k ∧ wr.ownsRow w.heap.size 55 2 sv k (rowCells ((L.take k).map endsP)) ∧ (∃ g1 c1, sv = .slice (some ⟨g1, 0, none⟩) k c1) ∧ Below w.heap.size w wr) (fun _ i _ => L.length - (intOf i).toNat)
  case atStart => exact ⟨0, Nat.zero_le _, rfl, hown0, ⟨_, _, rfl⟩, hB0⟩
  case round =>
    obtain ⟨k, hk, rfl, hown, ⟨g1, c1, rfl⟩, hb⟩ := hrel
    by_cases hlt : k < L.length
    · have p0 := (hb.cell (p := ⟨g, off + k * 2, none⟩) hg).trans (Hh.out k hlt).1
      have p1 := (hb.cell (p := ⟨g, off + k * 2 + 1, none⟩) hg).trans (Hh.out k hlt).2
      obtain ⟨o1, o2, o3⟩ := Ho.out k hlt
      go_wp2_with fail
      refine (ends_ok _ _ _ o1 o2 o3).mono ?_
      rintro e w1 ⟨rfl, hb1⟩
      have hown1 := ownsRow_below (ownsRow_below (ownsRow_below (ownsRow_below hown ((Below.refl _ _).alloc (Nat.le_refl _) _)) hb1) ((Below.refl _ _).alloc (Nat.le_refl _) (.cells #[.int .u64 L[k].1, .int .u64 (L[k].1 + (L[k].2 - 1))] 55))) ((Below.refl _ _).alloc (Nat.le_refl _) (.cells #[.int .u64 L[k].1, .int .u64 (L[k].1 + (L[k].2 - 1))] 55))
      have hn2 := cell_two_new (w1.alloc (.cells #[.int .u64 L[k].1, .int .u64 (L[k].1 + (L[k].2 - 1))] 55)) (.int .u64 L[k].1) (.int .u64 (L[k].1 + (L[k].2 - 1))) 55
      rw [World.size_alloc] at hn2
      have hbw1 : Below w.heap.size w w1 := bt (ba hb _) hb1
      have hsw := hbw1.size
      go_wp2_with (at_builtin; refine wpList_append_own _ rfl (.tmp 26) (.tmp 28) 60 rfl w.heap.size 55 i1 (.agg #[.int .u64 0, .int .u64 0]) 2 16 Try.underlying60 hi hz0 hz1 hz2 rfl (by decide) _ _ _ rfl hown1 ⟨w1.heap.size + 1, 0, none⟩ 1 1 [.int .u64 L[k].1, .int .u64 (L[k].1 + (L[k].2 - 1))] rfl rfl hn2 (by simp [Value.oneCell']) (by unfold maxLen; omega) (by omega) (by simp; omega) ?_; intro v2 w2 hown2 hgrow2 _; obtain ⟨g2, c2, rfl⟩ := ownsRow_succ hown2)
      have hb2 : Below w.heap.size w w2 := (ba (ba hbw1 _) _).grown hgrow2 (by simp; omega) (ownsRow_from hown1)
      exact ⟨⟨k + 1, by omega, by go_num, by rw [← List.take_append_getElem hlt, List.map_append, show ([L[k]].map endsP) = [endsP L[k]] from rfl, rowCells_snoc']; exact hown2, ⟨_, _, rfl⟩, hb2⟩, by simp [intOf]; omega⟩
    · obtain rfl : k = L.length := by omega
      rw [List.take_length, ← HZ.out] at hown
      obtain ⟨_, ⟨he, _⟩ | ⟨g3, cap3, cur, he, hg3, hh, hle, hcap, hsz, htk⟩⟩ := hown
      · cases he
      cases he
      have hH : Go.Sort.HoldsK encE 2 wr g1 0 zs.toArray := holds_owned hh (by rw [← HN.out]; exact htk)
      have hgl : g1 < wr.heap.size := (Array.getElem?_eq_some_iff.1 hh).1
      clear htk hh
      go_wp2_with fail
      refine (sort_is g1 c1 L.length zs wr HN hH hgl (by omega)).mono ?_
      rintro e w3 ⟨rfl, S, hperm, hris, hlen, hends, hbel⟩
      have hSl : S.length = L.length := by rw [hlen, HN.out]
      have HS := Lib.hid hSl
      have hb3 := hb.trans (hbel _ hg3)
      have hs3 := (hbel 0 (Nat.zero_le _)).size
      have hH4 := hands_joined (S := S) (cap := c1) (by omega : g1 < w3.heap.size) (by omega) hcap hends
      rw [hSl] at hH4
      clear hlen hSl
      go_wp2_with fail
      refine (joined_any _ _ _ _).mono ?_
      rintro e w4 ⟨rfl, rfl⟩
      go_wp2_with fail
      refine (spansC_any _ _ (joinE S) (by have := joinE_len S; have := HS.out; omega) _ enters46 hH4).mono ?_
      rintro e w5 hS5
      have hU := union_end (ba hb3 _) HZ.out hperm hris hS5
      obtain ⟨va, vn, vc, ve, rfl⟩ := spans_ends hS5
      go_wp2
      go_ret2
      exact hU

end Go.Proofs.Ytkaenoejfdcokaa
