/- The sort of the ends in Union: the comparison, and what the sorted row holds. -/
import Derived.Test.YtkaenoejfdcokaaSort
import Derived.Test.YtkaenoejfdcokaaUMath
namespace Go.Proofs.Ytkaenoejfdcokaa
open Go.RowKit Go.Shelf Go.Lib Go.Sort

/-- cmp.Compare of two numbers. -/
def c3 (a b : Int) : Int := if a < b then -1 else if b < a then 1 else 0
set_option maxHeartbeats 400000 in
theorem nan_any (a : Int) (w : World) : Calls Try.prog 45 #[.int .u64 a] w fun e w' => e = .returned (.bool false) ∧ w' = w := by
  have h : (a != a) = false := by simp
  go_enter Try.func45, Try.ntmps45
  go_wp2
  go_ret
  exact ⟨rfl, rfl⟩
set_option maxHeartbeats 400000 in
theorem compare_any (a b : Int) (w : World) : Calls Try.prog 38 #[.int .u64 a, .int .u64 b] w fun e w' => e = .returned (.int .i64 (c3 a b)) ∧ w' = w := by
  by_cases h : a < b
  · rw [show c3 a b = -1 by unfold c3; rw [if_pos h]]
    go_enter Try.func38, Try.ntmps38
    go_wp2_with (go_at_call 45; refine (nan_any _ _).mono ?_; rintro e w' ⟨rfl, rfl⟩)
    go_ret
    exact ⟨rfl, rfl⟩
  · by_cases h' : b < a
    · rw [show c3 a b = 1 by unfold c3; rw [if_neg h, if_pos h']]
      go_enter Try.func38, Try.ntmps38
      go_wp2_with (go_at_call 45; refine (nan_any _ _).mono ?_; rintro e w' ⟨rfl, rfl⟩)
      go_ret
      exact ⟨rfl, rfl⟩
    · rw [show c3 a b = 0 by unfold c3; rw [if_neg h, if_neg h']]
      have h1 : a ≤ b := by omega
      have h2 : b ≤ a := by omega
      go_enter Try.func38, Try.ntmps38
      go_wp2_with (go_at_call 45; refine (nan_any _ _).mono ?_; rintro e w' ⟨rfl, rfl⟩)
      go_ret
      exact ⟨rfl, rfl⟩

instance e64_inhabited : Inhabited E64 := ⟨⟨(0, 0), by simp⟩⟩
/-- The two cells of ends. -/
def encE (x : E64) : List Value := [.int .u64 x.1.1, .int .u64 x.1.2]
def cfE (x y : E64) : Int := c3 x.1.1 y.1.1
set_option maxHeartbeats 1000000 in
theorem closure37 (x y : E64) (W : World) : Calls Try.prog 37 #[.agg #[.int .u64 x.1.1, .int .u64 x.1.2], .agg #[.int .u64 y.1.1, .int .u64 y.1.2]] W fun e w' => e = .returned (.int .i64 (cfE x y)) ∧ ∃ q os', w' = grow (W.drewN q) os' := by
  have hcon := fun W' => compare_any x.1.1 y.1.1 W'
  unfold cfE
  generalize c3 x.1.1 y.1.1 = r at hcon ⊢
  go_enter Try.func37, Try.ntmps37
  go_wp2_with (go_at_call 38; refine (hcon _).mono ?_; rintro e w' ⟨rfl, rfl⟩)
  go_ret
  exact ⟨rfl, 0, _, by rw [alloc_eq_grow, alloc_eq_grow, grow_grow]; rfl⟩
theorem cmpLays37 (blk off size : Nat) (w : World) : CmpLays Try.prog 37 #[] encE 2 cfE blk off size w := fun _ _ _ _ x y => closure37 x y _
theorem ltE (x y : E64) : ltOf cfE x y = decide (x.1.1 < y.1.1) := by
  unfold ltOf cfE c3
  by_cases h1 : x.1.1 < y.1.1
  · simp [h1]
  · by_cases h2 : y.1.1 < x.1.1 <;> simp [h1, h2]
theorem swoE : SWO (ltOf cfE) where
  irrefl x := by rw [ltE]; simp
  trans x y z h1 h2 := by rw [ltE] at *; simp at *; omega
  ntrans x y z h1 h2 := by rw [ltE] at *; simp at *; omega

/-- The row of ends that a slice value owns, as the sort wants it. -/
theorem holds_owned {w : World} {g : Nat} {cur : Array Value} {e : TypeId} {zs : List E64} (hb : w.heap[g]? = some (.cells cur e (0, 0))) (ht : cur.toList.take (zs.length * 2) = rowCells (endPairs zs)) : HoldsK encE 2 w g 0 zs.toArray := by
  intro t hlt
  rw [size_flatK] at hlt
  have hlt' : t < zs.length * 2 := by simpa using hlt
  refine ⟨?_, by simp [World.frozen?, hb]⟩
  have hz : t / 2 < zs.length := by omega
  rw [get_flatK encE 2 zs.toArray t hlt]
  have hg : zs.toArray[t / 2]! = zs[t / 2] := by rw [getElem!_pos zs.toArray (t / 2) (by simpa using hz)]; simp
  rw [hg, Nat.zero_add]
  have hl : (endPairs zs).length = zs.length := by simp [endPairs]
  obtain ⟨r0, r1⟩ := rowCells_at (endPairs zs) (t / 2) (by omega)
  rw [← ht, List.getElem?_take] at r0 r1
  rw [if_pos (by omega)] at r0 r1
  simp only [Array.getElem?_toList] at r0 r1
  have he : (endPairs zs)[t / 2]'(by omega) = zs[t / 2].1 := by simp [endPairs]
  rw [he] at r0 r1
  rcases Nat.mod_two_eq_zero_or_one t with h | h
  · have e1 : t / 2 * 2 = t := by omega
    rw [e1] at r0
    rw [h]
    simp only [World.cell?, hb]
    simpa [encE] using r0
  · have e1 : t / 2 * 2 + 1 = t := by omega
    rw [e1] at r1
    rw [h]
    simp only [World.cell?, hb]
    simpa [encE] using r1
/-- What the sort leaves. -/
theorem sorted_world {w : World} {blk : Nat} {d d' : Array E64} {n : Nat} {os : Array Obj} (hH : HoldsK encE 2 w blk 0 d) (hblk : blk < w.heap.size) (hs : d'.size = d.size) :
    HoldsK encE 2 (sortWorldK encE 2 w blk 0 n d' os) blk 0 d' ∧ ∀ b, b ≤ blk → Below b w (sortWorldK encE 2 w blk 0 n d' os) := by
  refine ⟨holdsK_sortWorldK_c encE 2 w blk 0 d d' n os hH hblk hs, fun b hb => ⟨rfl, rfl, rfl, ?_, fun k hk => ?_⟩⟩
  · simp [sortWorldK, putRowK, putRow, mapBlock, grow]
  · have hk' : k < w.heap.size := by omega
    have hne : blk ≠ k := by omega
    simp [sortWorldK, putRowK, putRow, mapBlock, grow, Array.getElem?_append, hk', Array.getElem_modify, hne]
theorem endsAt_holds {W : World} {g : Nat} {S : List E64} (h : HoldsK encE 2 W g 0 S.toArray) : EndsAt W g 0 S := by
  intro j hj
  have hj' : j < S.toArray.size := by simpa using hj
  have e : S.toArray[j]! = S[j] := by rw [getElem!_pos S.toArray j hj']; simp
  have c0 := (h.cell hj' (show 0 < 2 by omega)).1
  have c1 := (h.cell hj' (show 1 < 2 by omega)).1
  rw [e] at c0 c1
  exact ⟨by simpa [encE] using c0, by simpa [encE] using c1⟩

/-- What the sort leaves: the same ends, rising. -/
def SortPost (w : World) (g : Nat) (zs : List E64) (e : Ending) (w' : World) : Prop :=
  e = .returned (.tuple #[]) ∧ ∃ S : List E64, S.Perm zs ∧ Rising S ∧ S.length = zs.length ∧ EndsAt w' g 0 S ∧ ∀ b, b ≤ g → RowKit.Below b w w'
set_option maxHeartbeats 1000000 in
theorem sort_any (g cap : Nat) (zs : List E64) (w : World) (hH : HoldsK encE 2 w g 0 zs.toArray) (hg : g < w.heap.size) (hl : zs.length < 4611686018427387904) :
    Calls Try.prog 36 #[.slice (some ⟨g, 0, none⟩) zs.length cap, .func (.func 37) #[] #[]] w (SortPost w g zs) := by
  have eg : ∀ args w, (callFunc 37 args).run Try.prog w = .ok (.enter 37 args) w := enters_of Try.func37 (by kernel_rfl) rfl
  have hcon := AnyQ.slices_SortFunc sortL 2 Try.isAgg55 Try.sizeOf55 encE (fun _ => rfl) (fun x v hv => by simp [encE] at hv; rcases hv with rfl | rfl <;> rfl) cfE swoE 37 #[] g 0 cap zs.toArray w eg (cmpLays37 g 0 zs.toArray.size w) hH hg (by simpa using hl)
  change Calls Try.prog 36 _ _ _ at hcon
  simp only [List.size_toArray] at hcon
  refine hcon.mono ?_
  rintro e w' ⟨rfl, d', n, os, hp, hs, rfl⟩
  obtain ⟨hsz, _, hperm⟩ := hp
  simp only [List.size_toArray] at hsz
  have hw := sorted_world (n := n) (os := os) hH hg (d' := d') (by simpa using hsz)
  have e1 : d'.toList.length = zs.length := by simpa using hsz
  have e2 : d'.extract 0 zs.length = d' := by rw [← hsz]; simp
  have e3 : zs.toArray.extract 0 zs.length = zs.toArray := by simp
  rw [e2, e3] at hperm
  refine ⟨rfl, d'.toList, by simpa using hperm, ?_, e1, ?_, hw.2⟩
  · refine List.pairwise_iff_getElem.2 fun i j hi hj hij => ?_
    have := hs i j (Nat.zero_le _) hij (by omega)
    rw [ltE] at this
    have hi' : i < d'.size := by simpa using hi
    have hj' : j < d'.size := by simpa using hj
    rw [getElem!_pos d' i hi', getElem!_pos d' j hj'] at this
    simpa using this
  · refine endsAt_holds ?_
    simpa using hw.1
end Go.Proofs.Ytkaenoejfdcokaa
