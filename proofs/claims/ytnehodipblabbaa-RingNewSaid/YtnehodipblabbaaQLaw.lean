/- A loop over a function that hands values on and only makes memory: what the loop owes, what the function owes. The body may turn cells of texts and of rows of texts. Nothing of any function. -/
import Derived.Test.YtnehodipblabbaaQRow
import Derived.RangeFuncBox
import Derived.RangeFuncNested
import Derived.RangeFuncBound
import Derived.RangeFuncCalls
import Derived.RangeFuncLeaves
import Derived.Shelf.Abstract
import Derived.Shelf.RegionOpen
import Derived.OwnWalkIn
import Derived.TacticsInMore
import Derived.LoopNIn
import Derived.LoopIn
namespace Go.Proofs.Ytnehodipblabbaa
open Go.RowKit Go.Shelf

/-- A turned block that is none of the body's: from B on, and no cells. -/
def RowQ (B : Nat) (W : World) (row : Option Nat) : Prop :=
  ∀ r, row = some r → B ≤ r ∧ ∃ o, W.heap[r]? = some o ∧ o.isCells = false
def KeptQ {β : Type} (B : Nat) (J : β → World → Prop) : Prop := ∀ s W W' row, J s W → W.grownBy W' row → RowQ B W row → J s W'
/-- It abides what is made new. -/
def AbQ {β : Type} (J : β → World → Prop) : Prop := ∀ s W W', J s W → Below W.heap.size W W' → J s W'
/-- What a round that goes on keeps: all below n₀, and all cells but those of texts. -/
def KpQ (n₀ : Nat) (W W' : World) : Prop := Below n₀ W W' ∧ ∀ (k : Nat) (c : Array Value) (t : TypeId) (fr : Nat × Nat), t ≠ 9 → t ≠ 22 → W.heap[k]? = some (Obj.cells c t fr) → W'.heap[k]? = some (Obj.cells c t fr)
theorem KpQ.trans {n₀ : Nat} {A B C : World} (h : KpQ n₀ A B) (k : KpQ n₀ B C) : KpQ n₀ A C := ⟨h.1.trans k.1, fun i c t fr ht hu hi => k.2 i c t fr ht hu (h.2 i c t fr ht hu hi)⟩
theorem KpQ.refl (n₀ : Nat) (W : World) : KpQ n₀ W W := ⟨Below.refl _ _, fun _ _ _ _ _ _ h => h⟩
theorem KpQ.of_below {n₀ : Nat} {A B : World} (h : Below A.heap.size A B) (hn : n₀ ≤ A.heap.size) : KpQ n₀ A B :=
  ⟨h.mono hn, fun k _ _ _ _ _ hk => (h.block k (Array.getElem?_eq_some_iff.1 hk).1).trans hk⟩
theorem KpQ.putObj {n₀ l : Nat} {W : World} {o o' : Obj} (hn : n₀ ≤ l) (hl : W.heap[l]? = some o) (ho : o.isCells = false) : KpQ n₀ W (W.putObj l o') := by
  refine ⟨(Below.refl n₀ W).grown (grownBy_putObj' W l o') (by have := (Array.getElem?_eq_some_iff.1 hl).1; omega) (fun k e => by cases e; exact hn), fun k c t fr _ _ hk => ?_⟩
  have hne : k ≠ l := fun e => by subst e; rw [hk] at hl; cases hl; cases ho
  exact (World.putObj_heap_other hne).trans hk
/-- A store into texts, or into a place for a row of texts, from n₀ on. -/
theorem KpQ.set_ {n₀ : Nat} {W : World} {g : Nat} {u : TypeId} {cs : Array Value} (hb : Blk W g u cs) (hu : u = 9 ∨ u = 22) (hn : n₀ ≤ g) (o : Nat) (v : Value) : KpQ n₀ W (W.setCell ⟨g, o, none⟩ v) :=
  ⟨(Below.refl n₀ W).setCell (p := ⟨g, o, none⟩) hn v, fun k c t fr ht ht2 hk => (Below.heap_setCell W ⟨g, o, none⟩ v k (fun e => by
    have e' : k = g := e
    subst e'
    rw [show W.heap[k]? = _ from hb] at hk
    cases hk
    rcases hu with h | h
    · exact ht h
    · exact ht2 h)).trans hk⟩
/-- A row of texts, grown. -/
theorem KpQ.grown {n₀ : Nat} {W W' : World} {row : Option Nat} (h : W.grownBy W' row) (hs : n₀ ≤ W.heap.size) (hr : ∀ r, row = some r → n₀ ≤ r ∧ ∃ cs, Blk W r 9 cs) : KpQ n₀ W W' :=
  ⟨(Below.refl n₀ W).grown h hs (fun k e => (hr k e).1), fun k c t fr ht _ hk => (h.block k (Array.getElem?_eq_some_iff.1 hk).1 (fun e => by
    obtain ⟨_, cs, hc⟩ := hr k e.symm
    rw [show W.heap[k]? = _ from hc] at hk
    cases hk
    exact ht rfl)).trans hk⟩
theorem KpQ.boxed {n₀ : Nat} {W W' : World} {k : Nat} {t : TypeId} {v : Value} (h : KpQ n₀ W W') (ht : t ≠ 9) (ht2 : t ≠ 22) (hb : Boxed W k t v) : Boxed W' k t v := h.2 k _ _ _ ht ht2 hb
theorem KpQ.blk {n₀ : Nat} {W W' : World} {k : Nat} {t : TypeId} {cs : Array Value} (h : KpQ n₀ W W') (ht : t ≠ 9) (ht2 : t ≠ 22) (hb : Blk W k t cs) : Blk W' k t cs := h.2 k _ _ _ ht ht2 hb

/-- What is asked of the function that hands the values on. -/
def HandsQ {α : Type} (e1 : α → Value) (n gf : Nat) (lb : Array Value) (n₀ : Nat) (zs : List α) (w : World) : Prop :=
  ∀ (l : Nat) (J Jx : List α → World → Prop) (W : World), Below w.heap.size w W → AbQ J →
    (∀ pre x W1, J pre W1 → (pre ++ [x]) <+: zs → YieldAt Fence.wide (n - 1) Try.prog l #[e1 x] W1 fun e W' =>
      (e = .returned (.bool true) ∧ J (pre ++ [x]) W' ∧ KpQ n₀ W1 W') ∨ (e = .returned (.bool false) ∧ Jx (pre ++ [x]) W')) → J [] W →
    CallsIn Fence.wide n Try.prog gf (#[.func (.yield l) #[] #[]] ++ lb) W fun e W' => (∃ v, e = .returned v) ∧ (J zs W' ∨ ∃ pre, pre <+: zs ∧ Jx pre W')

/-- How a round may be left. -/
def LeftQ {α : Type} (B n₀ : Nat) (I : List α → World → Prop) (Ix : Code → List α → World → Prop) (xs : List α) (W : World) : Exit → Act → World → Prop
  | .normal, _, W' => KeepsFrom B W W' ∧ KpQ n₀ W W' ∧ I xs W'
  | .ret, _, W' => KeepsFrom B W W' ∧ Ix .ret xs W'
  | _, _, _ => False

theorem RowQ.cells {B : Nat} {W W' : World} {row : Option Nat} {k : Nat} {o : Obj} (h : RowQ B W row) (hg : W.grownBy W' row) (hk : W.heap[k]? = some o) (hc : o.isCells = true) : W'.heap[k]? = some o := by
  refine (hg.block k (Array.getElem?_eq_some_iff.1 hk).1 (fun e => ?_)).trans hk
  obtain ⟨_, o', ho, hn⟩ := h k e.symm
  rw [hk] at ho; cases ho; rw [hc] at hn; cases hn
theorem RowQ.blk {B : Nat} {W W' : World} {row : Option Nat} {k : Nat} {t : TypeId} {cs : Array Value} (h : RowQ B W row) (hg : W.grownBy W' row) (hb : Blk W k t cs) : Blk W' k t cs := h.cells hg hb rfl
theorem KeptQ.below {β : Type} {B : Nat} {J : β → World → Prop} (h : KeptQ B J) {s : β} {W W' : World} (hs : J s W) (hb : Below W.heap.size W W') : J s W' :=
  h s W W' none hs ⟨hb.os, hb.tape, hb.output, hb.size, fun k hk _ => hb.block k hk⟩ (fun r e => by cases e)
theorem KeptQ.alloc {β : Type} {B : Nat} {J : β → World → Prop} (h : KeptQ B J) {s : β} {W : World} (o : Obj) (hs : J s W) : J s (W.alloc o) := h s W _ none hs (World.grownBy_alloc W o none) (fun r e => by cases e)
theorem KeptQ.putObj {β : Type} {B : Nat} {J : β → World → Prop} (h : KeptQ B J) {s : β} {W : World} {l : Nat} {o : Obj} (o' : Obj) (hs : J s W) (hB : B ≤ l) (hl : W.heap[l]? = some o) (ho : o.isCells = false) : J s (W.putObj l o') :=
  h s W _ (some l) hs (grownBy_putObj' W l o') (fun r e => by cases e; exact ⟨hB, o, hl, ho⟩)

set_option maxHeartbeats 1000000 in
theorem range_one {α : Type} {e1 : α → Value} {n : Nat} {g : Operand} {p : Tmp} {assign body : Code} {Q : Exit → Act → World → Prop} {a : Act} {w w0 : World} (hn : 1 ≤ n) {gf : Nat} {lb : Array Value}
    (hg : a.eval g = .func (.func gf) #[] lb) (eg : ∀ args w, (callFunc gf args).run Try.prog w = .ok (.enter gf args) w) {n₀ : Nat} (hn₀ : n₀ ≤ w.heap.size) {zs : List α} (hH : HandsQ e1 (n - 1) gf lb n₀ zs w0) (hb0 : Below w0.heap.size w0 w)
    (I : List α → World → Prop) (Ix : Code → List α → World → Prop) (hI : KeptQ w.heap.size I) (hIx : ∀ c, KeptQ w.heap.size (Ix c)) (h0 : I [] w) (Ax : α → Act → World → Prop) (hAx : ∀ x a' W l o o', Ax x a' W → w.heap.size ≤ l → W.heap[l]? = some o → o.isCells = false → Ax x a' (W.putObj l o'))
    (hassign : ∀ (l : Nat) (pre : List α) (x : α) (W : World) (K : Act → World → Prop), I pre W → (∀ a' W', KeepsFrom w.heap.size W W' → KpQ n₀ W W' → I pre W' → Ax x a' W' → K a' W') →
      assign.wpIn (Fence.wide.inRound l) (n - 1 - 1) Try.prog (Exit.then K (fun _ _ _ => False)) { tmps := (#[p].zip #[e1 x]).foldl (fun t (p, v) => t.setIfInBounds p v) a.tmps, defers := [] } W)
    (hbody : ∀ (l : Nat) (pre : List α) (x : α) (a' : Act) (W : World), w.heap.size ≤ l → I pre W → Ax x a' W → (pre ++ [x]) <+: zs → body.wpIn (Fence.wide.inRound l) (n - 1 - 1) Try.prog (LeftQ w.heap.size n₀ I Ix (pre ++ [x]) W) a' W)
    (hdone : ∀ (D : Nat) (W : World), w.heap.size ≤ D → I zs W → W.heap[D]? = some (.deferred (some [])) → Q .normal { a with defers := { target := .collected D, args := #[] } :: a.defers } W)
    (hstop : ∀ (D : Nat) (c : Code) (pre : List α) (W : World), w.heap.size ≤ D → pre <+: zs → Ix c pre W → W.heap[D]? = some (.deferred (some [])) → c.wpIn Fence.wide n Try.prog Q { a with defers := { target := .collected D, args := #[] } :: a.defers } W) :
    (Code.rangeFunc g #[p] assign body).wpIn Fence.wide n Try.prog Q a w := by
  refine wpIn_rangeFunc fun fn hfn => ?_
  -- the loop's record and the block for deferred calls
  let R : LoopState → Option Code → Loop := fun st pe => { state := st, pending := pe, fn, tmps := a.tmps, params := #[p], assign, body, defers := w.heap.size }
  let V : World := (w.alloc (.deferred (some []))).alloc (.loop (R .ready none))
  have hVl : V.heap[w.heap.size + 1]? = some (.loop (R .ready none)) := by
    have := World.alloc_heap_new (w.alloc (.deferred (some []))) (.loop (R .ready none)); rwa [World.size_alloc] at this
  have hVd : V.heap[w.heap.size]? = some (.deferred (some [])) := (Below.heap_alloc _ _ _ (by simp)).trans (World.alloc_heap_new w _)
  have hVs : V.heap.size = w.heap.size + 2 := by simp [V]
  have hVb : Below w0.heap.size w0 V := hb0.trans ((((Below.refl _ w).alloc (Nat.le_refl _) _).alloc (by simp) _).mono hb0.size)
  refine ⟨w.heap.size + 1, [{ target := .collected w.heap.size, args := #[] }], V, { target := .fn (.func gf) lb, args := #[.func (.yield (w.heap.size + 1)) #[] #[]] }, V, gf,
    #[.func (.yield (w.heap.size + 1)) #[] #[]] ++ lb, V, run_enterLoop_outer _ _ _ _ _, ?_, fun _ _ => trivial, ?_, fun _ => hn, ?_⟩
  · simp only [resolve, hg]
    simp [go_sem]
  · simp [invoke, go_sem, eg]
  refine (hH (w.heap.size + 1)
    (fun pre W => I pre W ∧ W.heap[w.heap.size + 1]? = some (.loop (R .ready none)) ∧ W.heap[w.heap.size]? = some (.deferred (some [])))
    (fun pre W => ∃ c, Ix c pre W ∧ W.heap[w.heap.size + 1]? = some (.loop (R .done (some c))) ∧ W.heap[w.heap.size]? = some (.deferred (some [])))
    V hVb
    (fun s A B hs hb => ⟨hI.below hs.1 hb, (hb.block _ (Array.getElem?_eq_some_iff.1 hs.2.1).1).trans hs.2.1, (hb.block _ (Array.getElem?_eq_some_iff.1 hs.2.2).1).trans hs.2.2⟩)
    ?_ ⟨hI.alloc _ (hI.alloc _ h0), hVl, hVd⟩).mono ?_
  · -- one round
    rintro pre x W ⟨hi, hl, hd⟩ hlen
    refine ⟨fn, _, assign, body, run_yield (P := Try.prog) (args := #[e1 x]) hl rfl, roundIn_of_wpIn hfn (hassign _ pre x W _ hi ?_)⟩
    intro a' U hUk hUp hUi hUa
    have hl1 := hUk.same _ _ (by omega) hl rfl
    have hd1 := hUk.same _ _ (Nat.le_refl _) hd rfl
    have hlt := (Array.getElem?_eq_some_iff.1 hl1).1
    refine ⟨_, run_beginRound hl1 rfl, ?_⟩
    let Z : World := U.putObj (w.heap.size + 1) (.loop (R .busy none))
    have hl2 : Z.heap[w.heap.size + 1]? = some (.loop (R .busy none)) := World.putObj_heap_same hlt
    have hd2 : Z.heap[w.heap.size]? = some (.deferred (some [])) := (World.putObj_heap_other (by omega)).trans hd1
    have hZp : KpQ n₀ U Z := KpQ.putObj (by omega) hl1 rfl
    refine wpIn_mono (hbody _ pre x a' Z (by omega) (hI.putObj _ hUi (by omega) hl1 rfl) (hAx _ _ _ _ _ _ hUa (by omega) hl1 rfl) hlen) ?_
    intro e a3 W3 hp
    cases e with
    | normal =>
      obtain ⟨hk3, hp3, hi3⟩ := hp
      have hl3 := hk3.same _ _ (by omega) hl2 rfl
      have hd3 := hk3.same _ _ (Nat.le_refl _) hd2 rfl
      exact ⟨_, _, run_endRound none hl3, .inl ⟨rfl, ⟨hI.putObj _ hi3 (by omega) hl3 rfl, World.putObj_heap_same (Array.getElem?_eq_some_iff.1 hl3).1, (World.putObj_heap_other (by omega)).trans hd3⟩,
        hUp.trans (hZp.trans (hp3.trans (KpQ.putObj (by omega) hl3 rfl)))⟩⟩
    | ret =>
      obtain ⟨hk3, hi3⟩ := hp
      have hl3 := hk3.same _ _ (by omega) hl2 rfl
      have hd3 := hk3.same _ _ (Nat.le_refl _) hd2 rfl
      exact ⟨_, _, run_endRound (some .ret) hl3, .inr ⟨rfl, .ret, (hIx _).putObj _ hi3 (by omega) hl3 rfl, World.putObj_heap_same (Array.getElem?_eq_some_iff.1 hl3).1, (World.putObj_heap_other (by omega)).trans hd3⟩⟩
    | exit id => exact hp.elim
    | goto t => exact hp.elim
    | panic ch => exact hp.elim
    | outgrown => exact hp.elim
  · -- behind the loop
    rintro e W2 ⟨⟨v, rfl⟩, ⟨hi, hl, hd⟩ | ⟨pre, hp, c, hi, hl, hd⟩⟩
    · exact ⟨none, _, run_endLoop (P := Try.prog) hl (by simp [R]), hdone _ _ (Nat.le_refl _) (hI.putObj _ hi (by omega) hl rfl) ((World.putObj_heap_other (by omega)).trans hd)⟩
    · exact ⟨some c, _, run_endLoop (P := Try.prog) hl (by simp [R]), hstop _ c pre _ (Nat.le_refl _) hp ((hIx c).putObj _ hi (by omega) hl rfl) ((World.putObj_heap_other (by omega)).trans hd)⟩
end Go.Proofs.Ytnehodipblabbaa
