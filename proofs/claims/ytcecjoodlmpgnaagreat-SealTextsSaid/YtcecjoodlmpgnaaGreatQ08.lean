/- Texts of this seat, one behind the other: GLaw, GFill, GBlks. -/
import Derived.RangeFuncBox
import Derived.RangeFuncNested
import Derived.RangeFuncBound
import Derived.RangeFuncCalls
import Derived.RangeFuncLeaves
import Derived.Shelf.Abstract
import Derived.Shelf.RegionOpen
import Derived.OwnWalkIn
import Derived.TacticsInMore
import Derived.LoopNIn
import Derived.LoopIn
import Derived.Test.YtcecjoodlmpgnaaGreatQ01
import Derived.Test.YtcecjoodlmpgnaaGreatQ06
/- A loop over a function that hands values on and that owns some blocks: what the loop owes, what the function owes. Nothing of any function. -/
namespace Go.Proofs.YtcecjoodlmpgnaaGreat
open Go.RowKit Go.Shelf

/-- The world has grown, and of what was there only blocks of X are turned. -/
structure Grow (X : Nat → Prop) (W W' : World) : Prop where
  os : W'.os = W.os
  tape : W'.tape = W.tape
  output : W'.output = W.output
  size : W.heap.size ≤ W'.heap.size
  block : ∀ k, k < W.heap.size → ¬ X k → W'.heap[k]? = W.heap[k]?
/-- X, and what is new. -/
def Xn (X : Nat → Prop) (W W' : World) : Nat → Prop := fun k => X k ∨ (W.heap.size ≤ k ∧ k < W'.heap.size)
/-- Of X all is there. -/
def Bd (X : Nat → Prop) (W : World) : Prop := ∀ k, X k → k < W.heap.size
/-- X's blocks are as they were. -/
def Keep (X : Nat → Prop) (W W' : World) : Prop := W.heap.size ≤ W'.heap.size ∧ ∀ k, X k → W'.heap[k]? = W.heap[k]?
/-- It abides what X's owner does. -/
def Ab {β : Type} (J : β → (Nat → Prop) → World → Prop) : Prop := ∀ s X W W', J s X W → Grow X W W' → J s (Xn X W W') W'
section
variable {X : Nat → Prop} {A B C : World}
theorem Grow.refl (X : Nat → Prop) (W : World) : Grow X W W := ⟨rfl, rfl, rfl, Nat.le_refl _, fun _ _ _ => rfl⟩
theorem Grow.of_below (h : Below A.heap.size A B) (X : Nat → Prop) : Grow X A B := ⟨h.os, h.tape, h.output, h.size, fun k hk _ => h.block k hk⟩
theorem Grow.wide {Y : Nat → Prop} (h : Grow X A B) (hy : ∀ k, X k → Y k) : Grow Y A B := ⟨h.os, h.tape, h.output, h.size, fun k hk hn => h.block k hk (fun hx => hn (hy k hx))⟩
theorem Grow.alloc (X : Nat → Prop) (W : World) (o : Obj) : Grow X W (W.alloc o) := Grow.of_below ((Below.refl _ _).alloc (Nat.le_refl _) o) X
theorem Grow.putObj {l : Nat} (hl : X l) (W : World) (o : Obj) : Grow X W (W.putObj l o) := by
  have h := grownBy_putObj' W l o
  exact ⟨h.os, h.tape, h.output, h.size, fun k hk hn => h.block k hk (fun e => by cases e; exact hn hl)⟩
theorem Grow.setCell {g o : Nat} (hg : X g) (W : World) (v : Value) : Grow X W (W.setCell ⟨g, o, none⟩ v) :=
  ⟨rfl, rfl, rfl, by simp [World.setCell], fun k _ hn => Below.heap_setCell W ⟨g, o, none⟩ v k (fun e => hn (by have : k = g := e; rw [this]; exact hg))⟩
theorem Grow.drew (h : Grow X A B) : Grow X A B.drew := ⟨h.os, h.tape, h.output, h.size, h.block⟩
theorem Xn.bd (h : Bd X A) (hs : A.heap.size ≤ B.heap.size) : Bd (Xn X A B) B := fun k hk => by
  rcases hk with hk | hk
  · exact Nat.lt_of_lt_of_le (h k hk) hs
  · exact hk.2
theorem Xn.old {k : Nat} (h : X k) : Xn X A B k := .inl h
theorem Xn.none (h : B.heap.size = A.heap.size) : Xn X A B = X := by
  funext k
  apply propext
  unfold Xn
  constructor
  · rintro (h1 | ⟨h1, h2⟩)
    · exact h1
    · omega
  · exact .inl
theorem Xn.add (Y : Nat → Prop) : Xn (fun k => X k ∨ Y k) A B = fun k => Xn X A B k ∨ Y k := by
  funext k
  apply propext
  unfold Xn
  constructor
  · rintro ((h | h) | h)
    · exact .inl (.inl h)
    · exact .inr h
    · exact .inl (.inr h)
  · rintro ((h | h) | h)
    · exact .inl (.inl h)
    · exact .inr h
    · exact .inl (.inr h)
theorem Keep.trans (h : Keep X A B) (k : Keep X B C) : Keep X A C := ⟨Nat.le_trans h.1 k.1, fun i hi => (k.2 i hi).trans (h.2 i hi)⟩
theorem Keep.less {Y : Nat → Prop} (h : Keep X A B) (hy : ∀ k, Y k → X k) : Keep Y A B := ⟨h.1, fun k hk => h.2 k (hy k hk)⟩
theorem Keep.refl (X : Nat → Prop) (W : World) : Keep X W W := ⟨Nat.le_refl _, fun _ _ => rfl⟩
theorem Keep.of_below (h : Below A.heap.size A B) (hx : Bd X A) : Keep X A B := ⟨h.size, fun k hk => h.block k (hx k hk)⟩
theorem Keep.drew (h : Keep X A B) : Keep X A B.drew := h
theorem Keep.setCell (h : Keep X A B) {g o : Nat} (hg : ¬ X g) (v : Value) : Keep X A (B.setCell ⟨g, o, none⟩ v) :=
  ⟨by simpa [World.setCell] using h.1, fun k hk => (Below.heap_setCell B ⟨g, o, none⟩ v k (fun e => hg (by have : k = g := e; rw [← this]; exact hk))).trans (h.2 k hk)⟩
end

/-- What is asked of the function that hands values on, none of which ends the loop. -/
def HandsX {α : Type} (n gf : Nat) (lb : Array Value) (enc : α → Value) (zs : List α) (X0 : Nat → Prop) (w : World) : Prop :=
  ∀ (l : Nat) (J : List α → (Nat → Prop) → World → Prop) (X : Nat → Prop) (W : World), (∀ k, X0 k → X k ∧ W.heap[k]? = w.heap[k]?) → Ab J →
    (∀ pre x Y W1, J pre Y W1 → Bd Y W1 → (pre ++ [x]) <+: zs → YieldAt Fence.wide (n - 1) Tryz.prog l #[enc x] W1 fun e W' =>
      e = .returned (.bool true) ∧ J (pre ++ [x]) Y W' ∧ Keep Y W1 W') → J [] X W → Bd X W →
    CallsIn Fence.wide n Tryz.prog gf (#[.func (.yield l) #[] #[]] ++ lb) W fun e W' => (∃ v, e = .returned v) ∧ ∃ Y, J zs Y W' ∧ Bd Y W'

/-- How a round is left. -/
def LeftX {α : Type} (I : List α → (Nat → Prop) → World → Prop) (xs : List α) (Y : Nat → Prop) (W : World) : Exit → Act → World → Prop
  | .normal, _, W' => I xs Y W' ∧ Keep Y W W'
  | _, _, _ => False

set_option maxHeartbeats 1000000 in
theorem range_frame {α : Type} {n : Nat} {g : Operand} {p : Tmp} {assign body : Code} {Q : Exit → Act → World → Prop} {a : Act} {w : World} (hn : 1 ≤ n) {gf : Nat} {lb : Array Value}
    (hg : a.eval g = .func (.func gf) #[] lb) (eg : ∀ args w, (callFunc gf args).run Tryz.prog w = .ok (.enter gf args) w) {enc : α → Value} {zs : List α} {X0 : Nat → Prop} {w0 : World}
    (hH : HandsX (n - 1) gf lb enc zs X0 w0) (hX0 : ∀ k, X0 k → k < w.heap.size ∧ w.heap[k]? = w0.heap[k]?)
    (I : List α → (Nat → Prop) → World → Prop) (hI : Ab I) (h0 : I [] X0 w) (Ax : α → Act → World → Prop) (hAx : ∀ x a' W l o o', Ax x a' W → w.heap.size ≤ l → W.heap[l]? = some o → o.isCells = false → Ax x a' (W.putObj l o'))
    (hassign : ∀ (l : Nat) (pre : List α) (x : α) (Y : Nat → Prop) (W : World) (K : Act → World → Prop), I pre Y W → Bd Y W → Y l → Y w.heap.size → (∀ a' W', I pre Y W' → Keep Y W W' → Ax x a' W' → K a' W') →
      assign.wpIn (Fence.wide.inRound l) (n - 1 - 1) Tryz.prog (Exit.then K (fun _ _ _ => False)) { tmps := (#[p].zip #[enc x]).foldl (fun t (p, v) => t.setIfInBounds p v) a.tmps, defers := [] } W)
    (hbody : ∀ (l : Nat) (pre : List α) (x : α) (a' : Act) (Y : Nat → Prop) (W : World), w.heap.size ≤ l → I pre Y W → Bd Y W → Ax x a' W → (pre ++ [x]) <+: zs → body.wpIn (Fence.wide.inRound l) (n - 1 - 1) Tryz.prog (LeftX I (pre ++ [x]) Y W) a' W)
    (hdone : ∀ (D : Nat) (Y : Nat → Prop) (W : World), w.heap.size ≤ D → I zs Y W → Bd Y W → Y D → W.heap[D]? = some (.deferred (some [])) → Q .normal { a with defers := { target := .collected D, args := #[] } :: a.defers } W) :
    (Code.rangeFunc g #[p] assign body).wpIn Fence.wide n Tryz.prog Q a w := by
  refine wpIn_rangeFunc fun fn hfn => ?_
  let R : LoopState → Option Code → Loop := fun st pe => { state := st, pending := pe, fn, tmps := a.tmps, params := #[p], assign, body, defers := w.heap.size }
  let V : World := (w.alloc (.deferred (some []))).alloc (.loop (R .ready none))
  have hVl : V.heap[w.heap.size + 1]? = some (.loop (R .ready none)) := by
    have := World.alloc_heap_new (w.alloc (.deferred (some []))) (.loop (R .ready none)); rwa [World.size_alloc] at this
  have hVd : V.heap[w.heap.size]? = some (.deferred (some [])) := (Below.heap_alloc _ _ _ (by simp)).trans (World.alloc_heap_new w _)
  have hVs : V.heap.size = w.heap.size + 2 := by simp [V]
  have hVb : Below w.heap.size w V := ((Below.refl _ w).alloc (Nat.le_refl _) _).alloc (by simp) _
  have hXn : Xn X0 w V = fun k => X0 k ∨ (k = w.heap.size ∨ k = w.heap.size + 1) := by
    funext k
    apply propext
    unfold Xn
    rw [hVs]
    constructor
    · rintro (h | ⟨h1, h2⟩)
      · exact .inl h
      · exact .inr (by omega)
    · rintro (h | h)
      · exact .inl h
      · exact .inr (by omega)
  have hput : ∀ {s : List α} {Y : Nat → Prop} {W : World} {o o' : Obj}, I s (fun k => Y k ∨ (k = w.heap.size ∨ k = w.heap.size + 1)) W → W.heap[w.heap.size + 1]? = some o → I s (fun k => Y k ∨ (k = w.heap.size ∨ k = w.heap.size + 1)) (W.putObj (w.heap.size + 1) o') := by
    intro s Y W o o' hs hl
    have h1 := hI s _ W (W.putObj (w.heap.size + 1) o') hs (Grow.putObj (.inr (.inr rfl)) W o')
    rwa [Xn.none World.putObj_size] at h1
  refine ⟨w.heap.size + 1, [{ target := .collected w.heap.size, args := #[] }], V, { target := .fn (.func gf) lb, args := #[.func (.yield (w.heap.size + 1)) #[] #[]] }, V, gf,
    #[.func (.yield (w.heap.size + 1)) #[] #[]] ++ lb, V, run_enterLoop_outer _ _ _ _ _, ?_, fun _ _ => trivial, ?_, fun _ => hn, ?_⟩
  · simp only [resolve, hg]
    simp [go_sem]
  · simp [invoke, go_sem, eg]
  refine (hH (w.heap.size + 1)
    (fun pre X W => I pre (fun k => X k ∨ (k = w.heap.size ∨ k = w.heap.size + 1)) W ∧ W.heap[w.heap.size + 1]? = some (.loop (R .ready none)) ∧ W.heap[w.heap.size]? = some (.deferred (some [])) ∧ ¬ X w.heap.size ∧ ¬ X (w.heap.size + 1))
    X0 V (fun k hk => ⟨hk, (hVb.block k (hX0 k hk).1).trans (hX0 k hk).2⟩) ?_ ?_
    ⟨by rw [← hXn]; exact hI _ _ _ _ h0 (Grow.of_below hVb _), hVl, hVd, fun h => by have := (hX0 _ h).1; omega, fun h => by have := (hX0 _ h).1; omega⟩ (fun k hk => by have := (hX0 k hk).1; omega)).mono ?_
  · -- what the function's own doings leave
    rintro s X W W' ⟨h1, h2, h3, h4, h5⟩ hg'
    have l2 := (Array.getElem?_eq_some_iff.1 h2).1
    have l3 := (Array.getElem?_eq_some_iff.1 h3).1
    refine ⟨?_, (hg'.block _ l2 h5).trans h2, (hg'.block _ l3 h4).trans h3, ?_, ?_⟩
    · have := hI s _ W W' h1 (hg'.wide (fun k hk => .inl hk))
      rwa [Xn.add (X := X) (fun k => k = w.heap.size ∨ k = w.heap.size + 1)] at this
    · rintro (h | ⟨h, _⟩)
      · exact h4 h
      · omega
    · rintro (h | ⟨h, _⟩)
      · exact h5 h
      · omega
  · -- one round
    rintro pre x Y W1 ⟨hi, hl, hd, n4, n5⟩ hbd hlen
    have l2 := (Array.getElem?_eq_some_iff.1 hl).1
    have l3 := (Array.getElem?_eq_some_iff.1 hd).1
    have hbd2 : Bd (fun k => Y k ∨ (k = w.heap.size ∨ k = w.heap.size + 1)) W1 := by
      rintro k (hk | rfl | rfl)
      · exact hbd k hk
      · exact l3
      · exact l2
    refine ⟨fn, _, assign, body, run_yield (P := Tryz.prog) (args := #[enc x]) hl rfl, roundIn_of_wpIn hfn (hassign _ pre x _ W1 _ hi hbd2 (.inr (.inr rfl)) (.inr (.inl rfl)) ?_)⟩
    intro a' U hUi hUk hUa
    have hl1 := (hUk.2 _ (.inr (.inr rfl))).trans hl
    have hd1 := (hUk.2 _ (.inr (.inl rfl))).trans hd
    have hlt := (Array.getElem?_eq_some_iff.1 hl1).1
    refine ⟨_, run_beginRound hl1 rfl, ?_⟩
    let Z : World := U.putObj (w.heap.size + 1) (.loop (R .busy none))
    have hl2 : Z.heap[w.heap.size + 1]? = some (.loop (R .busy none)) := World.putObj_heap_same hlt
    have hd2 : Z.heap[w.heap.size]? = some (.deferred (some [])) := (World.putObj_heap_other (by omega)).trans hd1
    have hZs : Z.heap.size = U.heap.size := World.putObj_size
    have hbdZ : Bd (fun k => Y k ∨ (k = w.heap.size ∨ k = w.heap.size + 1)) Z := fun k hk => by
      have := hbd2 k hk
      have := hUk.1
      omega
    refine wpIn_mono (hbody _ pre x a' _ Z (by omega) (hput hUi hl1) hbdZ (hAx _ _ _ _ _ _ hUa (by omega) hl1 rfl) hlen) ?_
    intro e a3 W3 hp
    cases e with
    | normal =>
      obtain ⟨hi3, hk3⟩ := hp
      have hl3 := (hk3.2 _ (.inr (.inr rfl))).trans hl2
      have hd3 := (hk3.2 _ (.inr (.inl rfl))).trans hd2
      refine ⟨_, _, run_endRound none hl3, rfl, ⟨hput hi3 hl3, World.putObj_heap_same (Array.getElem?_eq_some_iff.1 hl3).1, (World.putObj_heap_other (by omega)).trans hd3, n4, n5⟩, ?_, fun k hk => ?_⟩
      · have h1 := hUk.1
        have h3 := hk3.1
        rw [World.putObj_size]
        omega
      · have hne : k ≠ w.heap.size + 1 := fun e => n5 (e ▸ hk)
        exact (World.putObj_heap_other hne).trans ((hk3.2 k (.inl hk)).trans ((World.putObj_heap_other hne).trans (hUk.2 k (.inl hk))))
    | ret => exact hp.elim
    | exit id => exact hp.elim
    | goto t => exact hp.elim
    | panic ch => exact hp.elim
    | outgrown => exact hp.elim
  · -- behind the loop
    rintro e W2 ⟨⟨v, rfl⟩, Y, ⟨hi, hl, hd, n4, n5⟩, hbd⟩
    have l2 := (Array.getElem?_eq_some_iff.1 hl).1
    have l3 := (Array.getElem?_eq_some_iff.1 hd).1
    refine ⟨none, _, run_endLoop (P := Tryz.prog) hl (by simp [R]), hdone _ _ _ (Nat.le_refl _) (hput hi hl) (fun k hk => ?_) (.inr (.inl rfl)) ((World.putObj_heap_other (by omega)).trans hd)⟩
    rw [World.putObj_size]
    rcases hk with hk | rfl | rfl
    · exact hbd k hk
    · exact l3
    · exact l2
end Go.Proofs.YtcecjoodlmpgnaaGreat
/- The iterator filled: a text's blocks, as numbers. -/
namespace Go.Proofs.YtcecjoodlmpgnaaGreat
open Go.RowKit Go.Shelf
attribute [local go_sem] Oper.semAt_some

/-- A text's blocks. -/
def fillC (L : List UInt8) : List Nat := (List.range ((L.length + 15) / 16)).map fun i => bn ((L.drop (16 * i)).take 16)
theorem fillC_len (L : List UInt8) : (fillC L).length = (L.length + 15) / 16 := by simp [fillC]
theorem fillC_at (L : List UInt8) {i : Nat} (h : i < (L.length + 15) / 16) : (fillC L)[i]'(by rw [fillC_len]; exact h) = bn ((L.drop (16 * i)).take 16) := by simp [fillC]
theorem fillC_take (L : List UInt8) {i : Nat} (h : i < (L.length + 15) / 16) : (fillC L).take (i + 1) = (fillC L).take i ++ [bn ((L.drop (16 * i)).take 16)] := by
  rw [← fillC_at L h, List.take_append_getElem]
def strLen (w : World) (b : Nat) : Nat := match w.cell? ⟨b, 0, none⟩ with
  | some (.string s) => s.size
  | _ => 0
theorem strLen_is {w : World} {b : Nat} {l : List UInt8} (h : w.cell? ⟨b, 0, none⟩ = some (.string ⟨l.toArray⟩)) : strLen w b = l.length := by
  unfold strLen
  rw [h]
  exact size_of l
theorem extract_drop' (s : List UInt8) (m n : Nat) (hn : s.length = n) : (⟨s.toArray⟩ : ByteArray).extract m n = ⟨(s.drop m).toArray⟩ := by
  apply ByteArray.ext
  apply Array.toList_inj.1
  rw [Lib.extract_data]
  subst hn
  simp [List.take_of_length_le]

set_option maxRecDepth 100000 in
set_option maxHeartbeats 4000000 in
theorem filled_hands (n : Nat) (hn : 1 ≤ n) (Bs : Nat) (L : List UInt8) (w : World) (hL : (L.length : Int) ≤ 9223372036854775807) (hB : Blk w Bs 9 #[.string ⟨L.toArray⟩]) :
    HandsX n 124 #[.pointer (some ⟨Bs, 0, none⟩)] (fun N => .agg (Pol N)) (fillC L) (fun k => k = Bs) w := by
  rintro l J X W hX hJ hY h0 hbd
  have HJ := Lib.hid hJ
  have HY := Lib.hid hY
  have hXB := (hX Bs rfl).1
  have hBW : Blk W Bs 9 #[.string ⟨L.toArray⟩] := (hX Bs rfl).2.trans hB
  have HT := Lib.hid (fun i hi => fillC_take L (i := i) hi)
  have HFL := Lib.hid (fillC_len L)
  have HP := Lib.hid (fun T k W hT hk => polynomialOf_any T k W hT hk)
  generalize fillC L = zs at HT HFL HY ⊢
  have HST : Hid (J (zs.take 0) X W ∧ X Bs ∧ Bd X W ∧ Blk W Bs 9 #[.string ⟨(L.drop (16 * 0)).toArray⟩]) := Lib.hid ⟨h0, hXB, hbd, hBW⟩
  clear hX hJ hY h0 hXB hbd hB hBW
  refine callsIn_of_wp Tryz.func124 rfl trivial ?_ rfl
  simp only [Tryz.ntmps124, List.size_toArray, List.length_cons, List.length_nil, Nat.reduceAdd, Nat.reduceSub, Array.replicate_succ, Array.replicate_zero, List.push_toArray, List.append_toArray, List.nil_append, List.cons_append]
  gi_wp2
  gi_loopw [3] (fun _ wr => ∃ (i : Nat) (Y : Nat → Prop), Hid (i ≤ (L.length + 15) / 16) ∧ Hid (J (zs.take i) Y wr ∧ Y Bs ∧ Bd Y wr ∧ Blk wr Bs 9 #[.string ⟨(L.drop (16 * i)).toArray⟩])) (fun _ wr => strLen wr Bs)
  case atStart => exact ⟨0, X, Lib.hid (Nat.zero_le _), HST⟩
  case round =>
    clear HST
    obtain ⟨i, Y, HI, HK⟩ := hrel
    have hc := HK.out.2.2.2.cell 0
    obtain ⟨M, hM⟩ : ∃ M, L.drop (16 * i) = M := ⟨_, rfl⟩
    rw [hM] at hc
    have hc' : wr.cell? ⟨Bs, 0, none⟩ = some (.string ⟨M.toArray⟩) := hc
    have hsz := size_of M
    have HML : Hid (M.length = L.length - 16 * i) := Lib.hid (by rw [← hM, List.length_drop])
    have HSL := Lib.hid (strLen_is hc')
    by_cases h0 : M.length = 0
    · rw [h0] at hsz
      have hend : (L.length + 15) / 16 ≤ i := by have := HML.out; omega
      have HE : Hid (zs.take i = zs) := Lib.hid (List.take_of_length_le (by rw [HFL.out]; exact hend))
      clear h0 hend hM hc
      gi_wp2
      go_end0
      exact ⟨⟨_, rfl⟩, Y, by rw [← HE.out]; exact HK.out.1, HK.out.2.2.1⟩
    · obtain ⟨m, hm⟩ : ∃ m, M.length = m := ⟨_, rfl⟩
      obtain ⟨s, hs⟩ : ∃ s, min m 16 = s := ⟨_, rfl⟩
      have hlt : i < (L.length + 15) / 16 := by have := HML.out; omega
      have HZ := Lib.hid (HT.out i hlt)
      have hmL : (m : Int) ≤ 9223372036854775807 := by have := HML.out; omega
      have hex := extract_take M s
      have hex2 := extract_drop' M s m hm
      have HTL : Hid ((M.take s).length = s) := Lib.hid (by rw [List.length_take]; omega)
      have hT16 : M.take s = M.take 16 := by
        rw [← hs]
        by_cases h : m ≤ 16
        · rw [Nat.min_eq_left h, List.take_of_length_le (by omega), List.take_of_length_le (by omega)]
        · rw [Nat.min_eq_right (by omega)]
      have HD16 : Hid (M.drop s = L.drop (16 * (i + 1))) := Lib.hid (by
        rw [← hM, List.drop_drop, ← hs]
        by_cases h : 16 ≤ m
        · rw [Nat.min_eq_right h]; rfl
        · have h1 := HML.out
          rw [Nat.min_eq_left (by omega), List.drop_of_length_le (by omega), List.drop_of_length_le (by omega)])
      rw [hM, ← hT16] at HZ
      have HPT := Lib.hid (fun W => HP.out (M.take s) s W HTL.out (by omega))
      generalize M.take s = T at hex HTL HZ HPT
      generalize M.drop s = D at hex2 HD16
      rw [hm] at hsz
      have hpos : 0 < m := by omega
      have hminI : min (m : Int) 16 = (s : Int) := by omega
      have hsm : (s : Int) ≤ (m : Int) := by omega
      have hsm' : s ≤ m := by omega
      have hs16 : s ≤ 16 := by omega
      have hposI : (0 : Int) < (m : Int) := by omega
      have HM := Lib.hid hM
      clear h0 hM hc hT16 hs
      have HJW := Lib.hid (fun wa (hba : Below wr.heap.size wr wa) => HJ.out _ _ _ _ HK.out.1 (Grow.of_below hba Y))
      have HBW := Lib.hid (fun wa (hba : Below wr.heap.size wr wa) => (HK.out.2.2.2.below hba : Blk wa Bs 9 #[.string ⟨(L.drop (16 * i)).toArray⟩]))
      have HPRE : Hid (zs.take i ++ [bn T] <+: zs) := Lib.hid (by rw [← HZ.out]; exact List.take_prefix _ _)
      have HYY := Lib.hid (fun wa (hba : Below wr.heap.size wr wa) => HY.out _ _ _ _ (HJW.out wa hba) (Xn.bd HK.out.2.2.1 hba.size) HPRE.out)
      have HXB : Hid (Y Bs) := Lib.hid HK.out.2.1
      gi_wp2_with fail
      refine ⟨trivial, ?_⟩
      refine (callsIn_wide.2 (HPT.out _)).mono ?_
      rintro e wa ⟨rfl, hba⟩
      obtain ⟨fn, tmps, assign, body, hy, hR⟩ := HYY.out wa hba
      have HR := Lib.hid hR
      clear hR
      gi_wp2
      refine HR.out.mono ?_
      rintro e wb ⟨rfl, hJ3, hk3⟩
      have hB3 : Blk wb Bs 9 #[.string ⟨(L.drop (16 * i)).toArray⟩] := (hk3.2 Bs (.inl HXB.out)).trans (HBW.out wa hba)
      have HB3 := Lib.hid hB3
      have HJ3 := Lib.hid hJ3
      have hbd3 : Bd (Xn Y wr wa) wb := fun k hk => Nat.lt_of_lt_of_le (Xn.bd HK.out.2.2.1 hba.size k hk) hk3.1
      have HBD := Lib.hid hbd3
      have hc3 : wb.cell? ⟨Bs, 0, none⟩ = some (.string ⟨M.toArray⟩) := by rw [← HM.out]; exact hB3.cell 0
      have hf3 : wb.frozen? ⟨Bs, 0, none⟩ = false := hB3.frozen 0
      have hgw := Grow.setCell (X := Xn Y wr wa) (g := Bs) (o := 0) (.inl HXB.out) wb (.string ⟨D.toArray⟩)
      have hfin : J (zs.take (i + 1)) (Xn (Xn Y wr wa) wb (wb.setCell ⟨Bs, 0, none⟩ (.string ⟨D.toArray⟩))) (wb.setCell ⟨Bs, 0, none⟩ (.string ⟨D.toArray⟩)) := by
        rw [HZ.out]
        exact HJ.out _ _ _ _ HJ3.out hgw
      have HFIN : Hid (J (zs.take (i + 1)) (Xn (Xn Y wr wa) wb (wb.setCell ⟨Bs, 0, none⟩ (.string ⟨D.toArray⟩))) (wb.setCell ⟨Bs, 0, none⟩ (.string ⟨D.toArray⟩)) ∧ Xn (Xn Y wr wa) wb (wb.setCell ⟨Bs, 0, none⟩ (.string ⟨D.toArray⟩)) Bs ∧ Bd (Xn (Xn Y wr wa) wb (wb.setCell ⟨Bs, 0, none⟩ (.string ⟨D.toArray⟩))) (wb.setCell ⟨Bs, 0, none⟩ (.string ⟨D.toArray⟩)) ∧ Blk (wb.setCell ⟨Bs, 0, none⟩ (.string ⟨D.toArray⟩)) Bs 9 #[.string ⟨D.toArray⟩]) := Lib.hid ⟨hfin, .inl (.inl HXB.out), Xn.bd hbd3 hgw.size, hB3.set_ 0 (.string ⟨D.toArray⟩)⟩
      have HSF : Hid (strLen (wb.setCell ⟨Bs, 0, none⟩ (.string ⟨D.toArray⟩)) Bs = D.length) := Lib.hid (strLen_is (HFIN.out.2.2.2.cell 0))
      have HDL : Hid (D.length < strLen wr Bs) := Lib.hid (by rw [HSL.out, HD16.out, ← HM.out, List.length_drop, List.length_drop]; have := HML.out; omega)
      clear hy hJ3 hk3 hB3 hbd3 hc' hfin hgw hba
      gi_wp2
      refine ⟨⟨i + 1, _, Lib.hid (by omega), Lib.hid (by rw [← HD16.out]; exact HFIN.out)⟩, ?_⟩
      rw [HSF.out]
      exact HDL.out

set_option maxHeartbeats 1000000 in
theorem filled_any (l : List UInt8) (w : World) :
    Calls Tryz.prog 96 #[.string ⟨l.toArray⟩] w fun e w' => e = .returned (.func (.func 124) #[] #[.pointer (some ⟨w.heap.size, 0, none⟩)]) ∧ w' = w.alloc (.cells #[.string ⟨l.toArray⟩] 9) := by
  go_enter Tryz.func96, Tryz.ntmps96
  go_wp2
  go_ret
  exact ⟨rfl, rfl⟩
set_option maxHeartbeats 1000000 in
theorem bitsOf_any (l : List UInt8) (n : Nat) (w : World) (hn : l.length = n) (hl : n ≤ 80) :
    Calls Tryz.prog 97 #[.string ⟨l.toArray⟩] w fun e w' => e = .returned (.int .u64 ((8 * n : Nat) : Int)) ∧ w = w' := by
  have hs := size_of l
  rw [hn] at hs
  go_enter Tryz.func97, Tryz.ntmps97
  go_wp2
  go_ret
  refine ⟨?_, rfl⟩
  go_num
end Go.Proofs.YtcecjoodlmpgnaaGreat
/- The iterator blocks: a head's and a text's blocks, and of how many bits both are, as numbers. -/
namespace Go.Proofs.YtcecjoodlmpgnaaGreat
open Go.RowKit Go.Shelf
attribute [local go_sem] Oper.semAt_some

/-- The block of how many bits. -/
def lenN (h t : List UInt8) : Nat := ofW (8 * h.length) (8 * t.length)
def blocksN (h t : List UInt8) : List Nat := fillC h ++ fillC t ++ [lenN h t]
/-- Between two rounds of the inner loop. -/
def InI (J : List Nat → (Nat → Prop) → World → Prop) (done : List Nat) (K0 : Nat → Prop) (W : World) (pre : List Nat) (Y : Nat → Prop) (V : World) : Prop :=
  ∃ Z : Nat → Prop, (∀ k, Y k → Z k) ∧ (∀ k, K0 k → Z k ∧ ¬ Y k ∧ V.heap[k]? = W.heap[k]?) ∧ Bd Z V ∧ J (done ++ pre) Z V
theorem InI.ab {J : List Nat → (Nat → Prop) → World → Prop} (hJ : Ab J) (done : List Nat) (K0 : Nat → Prop) (W : World) : Ab (InI J done K0 W) := by
  rintro s X V V' ⟨Z, h1, h2, h3, h4⟩ hg
  refine ⟨Xn Z V V', ?_, ?_, Xn.bd h3 hg.size, hJ _ _ _ _ h4 (hg.wide h1)⟩
  · rintro k (hk | hk)
    · exact .inl (h1 k hk)
    · exact .inr hk
  · intro k hk
    obtain ⟨a1, a2, a3⟩ := h2 k hk
    have hb := h3 k a1
    refine ⟨.inl a1, ?_, (hg.block k hb a2).trans a3⟩
    rintro (h | h)
    · exact a2 h
    · omega
theorem InI.start {J : List Nat → (Nat → Prop) → World → Prop} {done : List Nat} {K0 X0 Z : Nat → Prop} {W : World} (hJ : J done Z W) (hb : Bd Z W) (hX : ∀ k, X0 k → Z k) (hK : ∀ k, K0 k → Z k ∧ ¬ X0 k) : InI J done K0 W [] X0 W :=
  ⟨Z, hX, fun k hk => ⟨(hK k hk).1, (hK k hk).2, rfl⟩, hb, by rwa [List.append_nil]⟩
theorem InI.below {J : List Nat → (Nat → Prop) → World → Prop} (hJ : Ab J) {done : List Nat} {K0 : Nat → Prop} {W : World} {pre : List Nat} {Y : Nat → Prop} {V V' : World} (h : InI J done K0 W pre Y V) (hb : Below V.heap.size V V') : InI J done K0 W pre Y V' := by
  obtain ⟨Z, h1, h2, h3, h4⟩ := h
  refine ⟨Xn Z V V', fun k hk => .inl (h1 k hk), fun k hk => ?_, Xn.bd h3 hb.size, hJ _ _ _ _ h4 (Grow.of_below hb _)⟩
  obtain ⟨a1, a2, a3⟩ := h2 k hk
  exact ⟨.inl a1, a2, (hb.block k (h3 k a1)).trans a3⟩
theorem any_room {n m l : Nat} {k f : Nat} {tmps : Array Value} {assign body : Code} {w : World} {R : Ending → World → Prop} (h : RoundIn Fence.wide n Tryz.prog k f tmps assign body w R) : RoundIn (Fence.wide.inRound l) m Tryz.prog k f tmps assign body w R :=
  ⟨h.1, fun c cs _ => h.2 c cs (room_wide _)⟩
theorem gwpListIn_load_row {F : Fence} {n' : Nat} {P : Program} {ops : Array Oper} {rest : List Oper} {o : Oper} {a : Act} {w : World} {Q : Exit → Act → World → Prop} (hgd : o.guard = none) (ty : TypeId) (x : Operand) (ho : o.op = .load ty x)
    (g : Nat) (hx : a.eval x = .pointer (some ⟨g, 0, none⟩)) (t : TypeId) (cs : Array Value) (fr : Nat × Nat) (d : TypeDesc) (hg : w.heap[g]? = some (.cells cs t fr))
    (hu : P.underlying ty = some d) (hd : (match d with | .struct _ | .array _ _ => true | _ => false) = true) (hi : (P.info? ty).map (·.size) = some cs.size)
    (h : wpListIn F n' P ops Q rest (a.put o.dst (.agg cs)) w) : wpListIn F n' P ops Q (o :: rest) a w := by
  refine wpListIn_plain hgd fun K hK => ?_
  unfold Oper.wpIn
  refine ⟨?_, ?_⟩
  · simp [Oper.about, ho]
  · rw [Oper.semAt_plain F _ _ (by rw [ho]; intro c hc'; cases hc')]
    simp only [execOp, ho, hx, Instr.loadAt, Instr.sureAddr, Sem.run_bind, Sem.run_pure, Result.andThen_ok, run_loadVar_row w g t ty cs fr d hg hu hd hi]
    exact hK _ _ h

/-- A post that only the plain way out meets. -/
def OnlyN (Q : Exit → Act → World → Prop) : Exit → Act → World → Prop
  | .normal, a, w => Q .normal a w
  | _, _, _ => False
theorem wpIn_only {F : Fence} {n : Nat} {P : Program} {c : Code} {Q : Exit → Act → World → Prop} {a : Act} {w : World} (h : c.wpIn F n P (OnlyN Q) a w) : c.wpIn F n P Q a w :=
  Code.wpIn_mono (fun e a w q => by cases e <;> first | exact q | exact q.elim) h

set_option maxRecDepth 100000 in
set_option maxHeartbeats 8000000 in
theorem blocks_hands (n : Nat) (hn : 6 ≤ n) (B1 B2 : Nat) (h t : List UInt8) (w : World) (hh : h.length ≤ 80) (ht : t.length ≤ 80) (hB1 : Blk w B1 9 #[.string ⟨h.toArray⟩]) (hB2 : Blk w B2 9 #[.string ⟨t.toArray⟩]) :
    HandsX n 95 #[.pointer (some ⟨B1, 0, none⟩), .pointer (some ⟨B2, 0, none⟩)] (fun N => .agg (Pol N)) (blocksN h t) (fun k => k = B1 ∨ k = B2) w := by
  rintro l J X W hX hJ hY h0 hbd
  have HJ := Lib.hid hJ
  have HY := Lib.hid hY
  have x1 := (hX B1 (.inl rfl)).1
  have x2 := (hX B2 (.inr rfl)).1
  have b1 : Blk W B1 9 #[.string ⟨h.toArray⟩] := (hX B1 (.inl rfl)).2.trans hB1
  have b2 : Blk W B2 9 #[.string ⟨t.toArray⟩] := (hX B2 (.inr rfl)).2.trans hB2
  have c1 : W.cell? ⟨B1, 0, none⟩ = some (.string ⟨h.toArray⟩) := b1.cell 0
  have c2 : W.cell? ⟨B2, 0, none⟩ = some (.string ⟨t.toArray⟩) := b2.cell 0
  have l1 := b1.lt
  have l2 := b2.lt
  have HST : Hid (J [] X W ∧ X B1 ∧ X B2 ∧ Bd X W ∧ Blk W B1 9 #[.string ⟨h.toArray⟩] ∧ Blk W B2 9 #[.string ⟨t.toArray⟩]) := Lib.hid ⟨h0, x1, x2, hbd, b1, b2⟩
  have i0 : ∀ V : World, (Instr.index 137 (.agg #[.string ⟨h.toArray⟩, .string ⟨t.toArray⟩]) (.int .i64 0)).run Tryz.prog V = .ok (.string ⟨h.toArray⟩) V := fun V => by kernel_rfl
  have i1 : ∀ V : World, (Instr.index 137 (.agg #[.string ⟨h.toArray⟩, .string ⟨t.toArray⟩]) (.int .i64 1)).run Tryz.prog V = .ok (.string ⟨t.toArray⟩) V := fun V => by kernel_rfl
  have eg : ∀ args w, (callFunc 124 args).run Tryz.prog w = .ok (.enter 124 args) w := enters_of Tryz.func124 (by kernel_rfl) rfl
  have hd1 : 1 ≤ n := by omega
  have hd2 : 1 ≤ n - 1 - 1 := by omega
  clear hX hJ hY h0 hbd hB1 hB2 b1 b2 x1 x2
  refine callsIn_of_wp_marks Tryz.func95 rfl trivial ?_ rfl
  simp only [Tryz.ntmps95, List.size_toArray, List.length_cons, List.length_nil, Nat.reduceAdd, Nat.reduceSub, Array.replicate_succ, Array.replicate_zero, List.push_toArray, List.append_toArray, List.nil_append, List.cons_append]
  gi_wp2
  refine wpIn_loop_rounds 3 ?_
  rw [roundsIn_succ]
  gi_wp2_with fail
  refine ⟨trivial, ?_⟩
  refine (callsIn_wide.2 (filled_any h _)).mono ?_
  rintro e w' ⟨rfl, rfl⟩
  gi_wp2
  generalize hW1 : World.alloc (World.alloc W _) _ = W1
  have hb1 : Below W.heap.size W W1 := by rw [← hW1]; exact ba (ba (Below.refl _ _) _) _
  have z1 : W1.heap.size = W.heap.size + 1 + 1 := by rw [← hW1]; simp
  have bF : Blk W1 W.heap.size 136 #[.func (.yield l) #[] #[]] := by rw [← hW1]; exact (Blk.new W _ _).alloc _
  have bS : Blk W1 (W.heap.size + 1) 9 #[.string ⟨h.toArray⟩] := by rw [← hW1]; exact Blk.newAt (by simp) _ _
  have hst := HST.out
  have hJ1 := HJ.out _ _ _ _ hst.1 (Grow.of_below hb1 X)
  have bd1 := Xn.bd hst.2.2.2.1 hb1.size
  have p1 := hst.2.2.2.2.1.below hb1
  have p2 := hst.2.2.2.2.2.below hb1
  have q1 : Xn X W W1 B1 := .inl hst.2.1
  have q2 : Xn X W W1 B2 := .inl hst.2.2.1
  have qF : Xn X W W1 W.heap.size := .inr ⟨Nat.le_refl _, by omega⟩
  have qS : Xn X W W1 (W.heap.size + 1) := .inr ⟨by omega, by omega⟩
  generalize Xn X W W1 = Z1 at hJ1 bd1 q1 q2 qF qS
  clear hW1 hst HST hb1 c1 c2
  refine range_frame (n := n) hd1 (gf := 124) (lb := #[.pointer (some ⟨W.heap.size + 1, 0, none⟩)]) rfl eg (enc := fun N => .agg (Pol N)) (zs := fillC h) (X0 := fun k => k = W.heap.size + 1) (w0 := W1) (filled_hands (n - 1) (by omega) (W.heap.size + 1) h W1 (by omega) bS) (fun k hk => ⟨by subst hk; exact bS.lt, rfl⟩) (InI J [] (fun k => k = W.heap.size ∨ k = B1 ∨ k = B2) W1) (InI.ab HJ.out _ _ _) (InI.start hJ1 bd1 (fun k hk => by subst hk; exact qS) (fun k hk => by
      rcases hk with rfl | rfl | rfl
      · exact ⟨qF, by omega⟩
      · exact ⟨q1, by omega⟩
      · exact ⟨q2, by omega⟩
      ))
    (fun x a' V' => ∃ Bp, Blk V' Bp 109 (Pol x) ∧ a' = { tmps := #[.func (.yield l) #[] #[], .pointer (some ⟨B1, 0, none⟩), .pointer (some ⟨B2, 0, none⟩), .pointer (some ⟨W.heap.size, 0, none⟩), undef, .string ⟨h.toArray⟩, .pointer (some ⟨Bp, 0, none⟩), .string ⟨h.toArray⟩, .string ⟨t.toArray⟩, .agg #[.string ⟨h.toArray⟩, .string ⟨t.toArray⟩], .int .i64 0, .bool true, .string ⟨h.toArray⟩, .string ⟨h.toArray⟩, .func (.func 124) #[] #[.pointer (some ⟨W.heap.size + 1, 0, none⟩)], .agg (Pol x), undef, undef, undef, undef, undef, undef, undef, undef, undef, undef, undef, undef], defers := [] })
    (fun x a' V' k o o' hs hl ho hc => by
      obtain ⟨Bp, h1, h2⟩ := hs
      refine ⟨Bp, (World.putObj_heap_other (fun e9 => ?_)).trans h1, h2⟩
      subst e9
      rw [show V'.heap[Bp]? = _ from h1] at ho
      cases ho
      cases hc)
    ?assign1 ?body1 ?done1
  case assign1 =>
    rintro l9 pre x Y V' K hI _ _ _ hK
    have HI2 := Lib.hid (hI.below HJ.out (ba (Below.refl V'.heap.size V') (.cells (Pol x) 109)))
    have HKP : Hid (Keep Y V' (V'.alloc (.cells (Pol x) 109))) := Lib.hid (by
      obtain ⟨Z', a1, _, a3, _⟩ := hI
      exact Keep.of_below (ba (Below.refl _ _) _) (fun k hk => a3 k (a1 k hk)))
    have HBP := Lib.hid (Blk.new V' 109 (Pol x))
    clear hI
    gi_wp2
    exact hK _ _ HI2.out HKP.out ⟨V'.heap.size, HBP.out, rfl⟩
  case body1 =>
    rintro l9 pre x a' Y V' hl9 ⟨Z', a1, a2, a3, a4⟩ hbY ⟨Bp, hbp, rfl⟩ hpre
    have cF : V'.cell? ⟨W.heap.size, 0, none⟩ = some (.func (.yield l) #[] #[]) := (show Blk V' W.heap.size _ _ from (a2 _ (.inl rfl)).2.2.trans bF).cell 0
    have HBP := Lib.hid hbp
    have hpf : ([] ++ pre) ++ [x] <+: blocksN h t := by obtain ⟨r, hr⟩ := hpre; exact ⟨r ++ (fillC t ++ [lenN h t]), by unfold blocksN; rw [← hr]; simp⟩
    obtain ⟨fn, tmps, assign, body, hy, hR⟩ := HY.out _ _ _ _ a4 a3 hpf
    have HR := Lib.hid (any_room (l := l9) (m := n - 1 - 1 - 1) hR)
    have HA := Lib.hid (And.intro a1 a2)
    have HBd := Lib.hid a3
    clear hR a1 a2 a3 a4 hpf hpre hbp
    gi_wp2_with (refine gwpListIn_load_row rfl _ _ rfl _ rfl _ _ _ _ HBP.out Tryz.underlying109 rfl (plen x) ?_)
    refine HR.out.mono ?_
    rintro e V3 ⟨rfl, hJ9, hk9⟩
    have hF9 : LeftX (InI J [] (fun k => k = W.heap.size ∨ k = B1 ∨ k = B2) W1) (pre ++ [x]) Y V' .normal ({ tmps := #[], defers := [] } : Act) V3 := by
      refine ⟨⟨Z', HA.out.1, fun k hk => ?_, fun k hk => Nat.lt_of_lt_of_le (HBd.out k hk) hk9.1, by rw [← List.append_assoc]; exact hJ9⟩, hk9.less HA.out.1⟩
      obtain ⟨g1, g2, g3⟩ := HA.out.2 k hk
      exact ⟨g1, g2, (hk9.2 k g1).trans g3⟩
    have HF9 := Lib.hid hF9
    clear hF9 hJ9 hk9 cF hy
    gi_wp2
    exact HF9.out
  case done1 =>
    rintro D1 Y1 W2 hD1 ⟨Z2, a1, a2, a3, a4⟩ hbY hYD hdf
    rw [List.nil_append] at a4
    have q12 := (a2 B1 (.inr (.inl rfl)))
    have q22 := (a2 B2 (.inr (.inr rfl)))
    have qF2 := (a2 W.heap.size (.inl rfl))
    have qD2 := a1 _ hYD
    have cF2 : W2.cell? ⟨W.heap.size, 0, none⟩ = some (.func (.yield l) #[] #[]) := (show Blk W2 W.heap.size _ _ from qF2.2.2.trans bF).cell 0
    have HJ2 := Lib.hid a4
    have HBd2 := Lib.hid a3
    have b12 : Blk W2 B1 9 #[.string ⟨h.toArray⟩] := q12.2.2.trans p1
    have b22 : Blk W2 B2 9 #[.string ⟨t.toArray⟩] := q22.2.2.trans p2
    have bF2 : Blk W2 W.heap.size 136 #[.func (.yield l) #[] #[]] := qF2.2.2.trans bF
    have HQ2 : Hid (Z2 B1 ∧ Z2 B2 ∧ Z2 W.heap.size ∧ Z2 D1) := Lib.hid ⟨q12.1, q22.1, qF2.1, qD2⟩
    have HDF := Lib.hid hdf
    have HB12 := Lib.hid b12
    have HB22 := Lib.hid b22
    have HBF2 := Lib.hid bF2
    have sD := (Array.getElem?_eq_some_iff.1 hdf).1
    have sF := bF2.lt
    have s1 := b12.lt
    have s2 := b22.lt
    clear a1 a2 a3 a4 hbY hYD q12 q22 qF2 qD2 hdf b12 b22 bF2 cF2 hJ1 bd1 p1 p2 q1 q2 qF qS bF bS Y1
    gi_wp2
    rw [roundsIn_succ]
    gi_wp2_with fail
    refine ⟨trivial, ?_⟩
    refine (callsIn_wide.2 (filled_any t _)).mono ?_
    rintro e w' ⟨rfl, rfl⟩
    gi_wp2
    generalize hW3 : World.alloc W2 _ = W3
    have hb3 : Below W2.heap.size W2 W3 := by rw [← hW3]; exact ba (Below.refl _ _) _
    have z3 : W3.heap.size = W2.heap.size + 1 := by rw [← hW3]; simp
    have bS3 : Blk W3 W2.heap.size 9 #[.string ⟨t.toArray⟩] := by rw [← hW3]; exact Blk.new W2 _ _
    have bF3 := HBF2.out.below hb3
    have b13 := HB12.out.below hb3
    have b23 := HB22.out.below hb3
    have dF3 := (hb3.block D1 sD).trans HDF.out
    have hJ3 := HJ.out _ _ _ _ HJ2.out (Grow.of_below hb3 Z2)
    have bd3 := Xn.bd HBd2.out hb3.size
    have q13 : Xn Z2 W2 W3 B1 := .inl HQ2.out.1
    have q23 : Xn Z2 W2 W3 B2 := .inl HQ2.out.2.1
    have qF3 : Xn Z2 W2 W3 W.heap.size := .inl HQ2.out.2.2.1
    have qD3 : Xn Z2 W2 W3 D1 := .inl HQ2.out.2.2.2
    have qS3 : Xn Z2 W2 W3 W2.heap.size := .inr ⟨Nat.le_refl _, by omega⟩
    generalize Xn Z2 W2 W3 = Z3 at hJ3 bd3 q13 q23 qF3 qD3 qS3
    clear hW3 HJ2 HBd2 HQ2 HB12 HB22 HBF2 HDF hb3
    refine range_frame (n := n) hd1 (gf := 124) (lb := #[.pointer (some ⟨W2.heap.size, 0, none⟩)]) rfl eg (enc := fun N => .agg (Pol N)) (zs := fillC t) (X0 := fun k => k = W2.heap.size) (w0 := W3) (filled_hands (n - 1) (by omega) (W2.heap.size) t W3 (by omega) bS3) (fun k hk => ⟨by subst hk; exact bS3.lt, rfl⟩) (InI J (fillC h) (fun k => k = W.heap.size ∨ k = B1 ∨ k = B2 ∨ k = D1) W3) (InI.ab HJ.out _ _ _) (InI.start hJ3 bd3 (fun k hk => by subst hk; exact qS3) (fun k hk => by
        rcases hk with rfl | rfl | rfl | rfl
        · exact ⟨qF3, by omega⟩
        · exact ⟨q13, by omega⟩
        · exact ⟨q23, by omega⟩
        · exact ⟨qD3, by omega⟩
        ))
      (fun x a' V' => ∃ Bp, Blk V' Bp 109 (Pol x) ∧ a' = { tmps := #[.func (.yield l) #[] #[], .pointer (some ⟨B1, 0, none⟩), .pointer (some ⟨B2, 0, none⟩), .pointer (some ⟨W.heap.size, 0, none⟩), undef, .string ⟨t.toArray⟩, .pointer (some ⟨Bp, 0, none⟩), .string ⟨h.toArray⟩, .string ⟨t.toArray⟩, .agg #[.string ⟨h.toArray⟩, .string ⟨t.toArray⟩], .int .i64 1, .bool true, .string ⟨t.toArray⟩, .string ⟨t.toArray⟩, .func (.func 124) #[] #[.pointer (some ⟨W2.heap.size, 0, none⟩)], .agg (Pol x), undef, undef, undef, undef, .int .i64 1, undef, undef, undef, undef, undef, undef, undef], defers := [] })
      (fun x a' V' k o o' hs hl ho hc => by
        obtain ⟨Bp, h1, h2⟩ := hs
        refine ⟨Bp, (World.putObj_heap_other (fun e9 => ?_)).trans h1, h2⟩
        subst e9
        rw [show V'.heap[Bp]? = _ from h1] at ho
        cases ho
        cases hc)
      ?assign2 ?body2 ?done2
    case assign2 =>
      rintro l9 pre x Y V' K hI _ _ _ hK
      have HI2 := Lib.hid (hI.below HJ.out (ba (Below.refl V'.heap.size V') (.cells (Pol x) 109)))
      have HKP : Hid (Keep Y V' (V'.alloc (.cells (Pol x) 109))) := Lib.hid (by
        obtain ⟨Z', a1, _, a3, _⟩ := hI
        exact Keep.of_below (ba (Below.refl _ _) _) (fun k hk => a3 k (a1 k hk)))
      have HBP := Lib.hid (Blk.new V' 109 (Pol x))
      clear hI
      gi_wp2
      exact hK _ _ HI2.out HKP.out ⟨V'.heap.size, HBP.out, rfl⟩
    case body2 =>
      rintro l9 pre x a' Y V' hl9 ⟨Z', a1, a2, a3, a4⟩ hbY ⟨Bp, hbp, rfl⟩ hpre
      have cF : V'.cell? ⟨W.heap.size, 0, none⟩ = some (.func (.yield l) #[] #[]) := (show Blk V' W.heap.size _ _ from (a2 _ (.inl rfl)).2.2.trans bF3).cell 0
      have HBP := Lib.hid hbp
      have hpf : (fillC h ++ pre) ++ [x] <+: blocksN h t := by obtain ⟨r, hr⟩ := hpre; exact ⟨r ++ [lenN h t], by unfold blocksN; rw [← hr]; simp⟩
      obtain ⟨fn, tmps, assign, body, hy, hR⟩ := HY.out _ _ _ _ a4 a3 hpf
      have HR := Lib.hid (any_room (l := l9) (m := n - 1 - 1 - 1) hR)
      have HA := Lib.hid (And.intro a1 a2)
      have HBd := Lib.hid a3
      clear hR a1 a2 a3 a4 hpf hpre hbp
      gi_wp2_with (refine gwpListIn_load_row rfl _ _ rfl _ rfl _ _ _ _ HBP.out Tryz.underlying109 rfl (plen x) ?_)
      refine HR.out.mono ?_
      rintro e V3 ⟨rfl, hJ9, hk9⟩
      have hF9 : LeftX (InI J (fillC h) (fun k => k = W.heap.size ∨ k = B1 ∨ k = B2 ∨ k = D1) W3) (pre ++ [x]) Y V' .normal ({ tmps := #[], defers := [] } : Act) V3 := by
        refine ⟨⟨Z', HA.out.1, fun k hk => ?_, fun k hk => Nat.lt_of_lt_of_le (HBd.out k hk) hk9.1, by rw [← List.append_assoc]; exact hJ9⟩, hk9.less HA.out.1⟩
        obtain ⟨g1, g2, g3⟩ := HA.out.2 k hk
        exact ⟨g1, g2, (hk9.2 k g1).trans g3⟩
      have HF9 := Lib.hid hF9
      clear hF9 hJ9 hk9 cF hy
      gi_wp2
      exact HF9.out
    case done2 =>
      rintro D2 Y2 W4 hD2 ⟨Z4, a1, a2, a3, a4⟩ hbY hYD hdf
      have q14 := (a2 B1 (.inr (.inl rfl)))
      have q24 := (a2 B2 (.inr (.inr (.inl rfl))))
      have qF4 := (a2 W.heap.size (.inl rfl))
      have qD4 := (a2 D1 (.inr (.inr (.inr rfl))))
      have qE4 := a1 _ hYD
      have b14 : Blk W4 B1 9 #[.string ⟨h.toArray⟩] := q14.2.2.trans b13
      have b24 : Blk W4 B2 9 #[.string ⟨t.toArray⟩] := q24.2.2.trans b23
      have bF4 : Blk W4 W.heap.size 136 #[.func (.yield l) #[] #[]] := qF4.2.2.trans bF3
      have dF4 := qD4.2.2.trans dF3
      have hJ5 := HJ.out _ _ _ _ a4 (Grow.refl Z4 W4).drew
      have bd5 : Bd (Xn Z4 W4 W4.drew) W4.drew := Xn.bd a3 (Nat.le_refl _)
      have hpf : (fillC h ++ fillC t) ++ [lenN h t] <+: blocksN h t := List.prefix_refl _
      obtain ⟨fn, tmps, assign, body, hy, hR⟩ := HY.out _ _ _ _ hJ5 bd5 hpf
      have hPol : Pol (lenN h t) = #[qv (8 * h.length), qv (8 * t.length)] := by
        unfold Pol lenN
        rw [w0_of _ (by show _ < 18446744073709551616; omega), w1_of _ (by show _ < 18446744073709551616; omega)]
      rw [hPol] at hy
      have HBO1 := Lib.hid (fun V => bitsOf_any h _ V rfl hh)
      have HBO2 := Lib.hid (fun V => bitsOf_any t _ V rfl ht)
      have HR := Lib.hid hR
      have HD := Lib.hid (And.intro hdf dF4)
      have HQ5 : Hid (Xn Z4 W4 W4.drew D1 ∧ Xn Z4 W4 W4.drew D2) := Lib.hid ⟨.inl qD4.1, .inl qE4⟩
      have hne : D1 ≠ D2 := by omega
      have cF4 : W4.drew.cell? ⟨W.heap.size, 0, none⟩ = some (.func (.yield l) #[] #[]) := bF4.cell 0
      have c14 : W4.drew.cell? ⟨B1, 0, none⟩ = some (.string ⟨h.toArray⟩) := b14.cell 0
      have c24 : W4.drew.cell? ⟨B2, 0, none⟩ = some (.string ⟨t.toArray⟩) := b24.cell 0
      have hmx : Tryz.prog.follows .mixedOrders = true := by kernel_rfl
      have HBZ : Hid (blocksN h t = fillC h ++ fillC t ++ [lenN h t]) := Lib.hid rfl
      rw [← HBZ.out] at HR
      clear HBZ
      generalize 8 * h.length = x at HBO1 hy
      generalize 8 * t.length = y at HBO2 hy
      have HEND : Hid (∀ (a : Act) (W5 : World), J (blocksN h t) (Xn Z4 W4 W4.drew) W5 → Keep (Xn Z4 W4 W4.drew) W4.drew W5 → a.defers = [{ target := .collected D2, args := #[] }, { target := .collected D1, args := #[] }] →
          bodyPostM Fence.wide n Tryz.prog Tryz.f95 (fun e W' => (∃ v, e = .returned v) ∧ ∃ Y, J (blocksN h t) Y W' ∧ Bd Y W') .normal a W5) := Lib.hid (fun a W5 hJ6 hk6 hdef => by
        have e2 := (hk6.2 D2 HQ5.out.2).trans HD.out.1
        have e1 := (hk6.2 D1 HQ5.out.1).trans HD.out.2
        have e1' : (W5.putObj D2 (.deferred none)).heap[D1]? = some (.deferred (some [])) := (World.putObj_heap_other hne).trans e1
        have hJ7 := HJ.out _ _ _ _ hJ6 (Grow.putObj HQ5.out.2 W5 (.deferred none))
        have hJ8 := HJ.out _ _ _ _ hJ7 (Grow.putObj (X := Xn (Xn Z4 W4 W4.drew) W5 (W5.putObj D2 (.deferred none))) (.inl HQ5.out.1) (W5.putObj D2 (.deferred none)) (.deferred none))
        have hbd8 : Bd (Xn (Xn Z4 W4 W4.drew) W5 (W5.putObj D2 (.deferred none))) (W5.putObj D2 (.deferred none)) := Xn.bd (fun k hk => Nat.lt_of_lt_of_le (bd5 k hk) hk6.1) (Nat.le_of_eq World.putObj_size.symm)
        show LeavesInM _ _ _ _ _ _ a.defers _ _
        rw [hdef]
        refine ⟨by simp, .inl ⟨_, _, rfl, run_takeDeferred e2, ?_⟩⟩
        refine ⟨by simp, .inl ⟨_, _, rfl, run_takeDeferred e1', ?_⟩⟩
        refine ⟨_, results_none rfl _ _ _, ⟨_, rfl⟩, _, hJ8, Xn.bd hbd8 (Nat.le_of_eq World.putObj_size.symm)⟩)
      clear a1 a2 a3 a4 q14 q24 qF4 qD4 qE4 hbY hYD hdf dF4 hJ5 hpf hPol hR b14 b24 bF4 hJ3 bd3 q13 q23 qF3 qD3 qS3 bF3 b13 b23 dF3 bS3 Y2
      gi_wp2
      rw [roundsIn_succ]
      gi_wp2
      refine wpIn_only ?_
      gi_region_with_o (first | (refine HR.out.mono ?_; rintro e W5 ⟨rfl, hJ6, hk6⟩) | (refine ⟨trivial, ?_⟩; (with_reducible refine (callsIn_wide.2 (HBO1.out _)).mono ?_); rintro e w' ⟨rfl, rfl⟩) | (refine ⟨trivial, ?_⟩; (with_reducible refine (callsIn_wide.2 (HBO2.out _)).mono ?_); rintro e w' ⟨rfl, rfl⟩))
      all_goals (exact (show OnlyN _ .normal _ _ from HEND.out _ _ hJ6 hk6 rfl))
end Go.Proofs.YtcecjoodlmpgnaaGreat
