/- Texts of this seat, one behind the other: NLaw, NMet, NSl, NIns, NInsR. -/
import Derived.Laws.CopyOwn
import Derived.Lib.AppendZeros
import Derived.Lib.SliceRun
import Derived.Lib.Overlaps
import Derived.Laws.Externs
import Derived.Shelf.RegionOpenPlain
import Derived.Test.YtbecambkjmheiaaQ02
import Derived.Test.YtbecambkjmheiaaQ03
import Derived.Test.YtbecambkjmheiaaQ06
import Derived.Test.YtbecambkjmheiaaQ10
import Derived.Test.YtbecambkjmheiaaQ12
/- A loop over a function that hands two values on at a time and that owns some blocks, of which it turns none below a line: what the loop owes, what the function owes. Nothing of any function. -/
namespace Go.Proofs.Ytbecambkjmheiaa
open Go.RowKit Go.Shelf

/-- It abides what X's owner does, who turns nothing below a line. -/
def AbN2 {β : Type} (b0 : Nat) (J : β → (Nat → Prop) → World → Prop) : Prop := ∀ s X W W', J s X W → Grow X W W' → Below b0 W W' → J s (Xn X W W') W'
/-- What is asked of the function that hands values on, none of which ends the loop. -/
def HandsN2 {α : Type} (b0 n gf : Nat) (lb : Array Value) (enc enc2 : α → Value) (zs : List α) (X0 : Nat → Prop) (w : World) : Prop :=
  ∀ (l : Nat) (J : List α → (Nat → Prop) → World → Prop) (X : Nat → Prop) (W : World), (∀ k, X0 k → X k ∧ W.heap[k]? = w.heap[k]?) → b0 ≤ W.heap.size → AbN2 b0 J →
    (∀ pre x Y W1, J pre Y W1 → Bd Y W1 → (pre ++ [x]) <+: zs → YieldAt Fence.wide (n - 1) Try.prog l #[enc x, enc2 x] W1 fun e W' =>
      e = .returned (.bool true) ∧ J (pre ++ [x]) Y W' ∧ Keep Y W1 W') → J [] X W → Bd X W →
    CallsIn Fence.wide n Try.prog gf (#[.func (.yield l) #[] #[]] ++ lb) W fun e W' => (∃ v, e = .returned v) ∧ ∃ Y, J zs Y W' ∧ Bd Y W'

/-- How a round is left. -/
def LeftN2 {α : Type} (I : List α → (Nat → Prop) → World → Prop) (xs : List α) (Y : Nat → Prop) (W : World) : Exit → Act → World → Prop
  | .normal, _, W' => I xs Y W' ∧ Keep Y W W'
  | _, _, _ => False

set_option maxHeartbeats 1000000 in
theorem range_n2 {α : Type} {b0 n : Nat} {g : Operand} {p p2 : Tmp} {assign body : Code} {Q : Exit → Act → World → Prop} {a : Act} {w : World} (hn : 1 ≤ n) {gf : Nat} {lb : Array Value}
    (hg : a.eval g = .func (.func gf) #[] lb) (eg : ∀ args w, (callFunc gf args).run Try.prog w = .ok (.enter gf args) w) {enc enc2 : α → Value} {zs : List α} {X0 : Nat → Prop} {w0 : World}
    (hB0 : b0 ≤ w.heap.size) (hH : HandsN2 b0 (n - 1) gf lb enc enc2 zs X0 w0) (hX0 : ∀ k, X0 k → k < w.heap.size ∧ w.heap[k]? = w0.heap[k]?)
    (I : List α → (Nat → Prop) → World → Prop) (hI : AbN2 b0 I) (h0 : I [] X0 w) (Ax : α → Act → World → Prop) (hAx : ∀ x a' W l o o', Ax x a' W → w.heap.size ≤ l → W.heap[l]? = some o → o.isCells = false → Ax x a' (W.putObj l o'))
    (hassign : ∀ (l : Nat) (pre : List α) (x : α) (Y : Nat → Prop) (W : World) (K : Act → World → Prop), I pre Y W → Bd Y W → Y l → Y w.heap.size → (∀ a' W', I pre Y W' → Keep Y W W' → Ax x a' W' → K a' W') →
      assign.wpIn (Fence.wide.inRound l) (n - 1 - 1) Try.prog (Exit.then K (fun _ _ _ => False)) { tmps := (#[p, p2].zip #[enc x, enc2 x]).foldl (fun t (p, v) => t.setIfInBounds p v) a.tmps, defers := [] } W)
    (hbody : ∀ (l : Nat) (pre : List α) (x : α) (a' : Act) (Y : Nat → Prop) (W : World), w.heap.size ≤ l → I pre Y W → Bd Y W → Ax x a' W → (pre ++ [x]) <+: zs → body.wpIn (Fence.wide.inRound l) (n - 1 - 1) Try.prog (LeftN2 I (pre ++ [x]) Y W) a' W)
    (hdone : ∀ (D : Nat) (Y : Nat → Prop) (W : World), w.heap.size ≤ D → I zs Y W → Bd Y W → Y D → W.heap[D]? = some (.deferred (some [])) → Q .normal { a with defers := { target := .collected D, args := #[] } :: a.defers } W) :
    (Code.rangeFunc g #[p, p2] assign body).wpIn Fence.wide n Try.prog Q a w := by
  refine wpIn_rangeFunc fun fn hfn => ?_
  let R : LoopState → Option Code → Loop := fun st pe => { state := st, pending := pe, fn, tmps := a.tmps, params := #[p, p2], assign, body, defers := w.heap.size }
  let V : World := (w.alloc (.deferred (some []))).alloc (.loop (R .ready none))
  have hVl : V.heap[w.heap.size + 1]? = some (.loop (R .ready none)) := by
    have := World.alloc_heap_new (w.alloc (.deferred (some []))) (.loop (R .ready none)); rwa [World.size_alloc] at this
  have hVd : V.heap[w.heap.size]? = some (.deferred (some [])) := (Below.heap_alloc _ _ _ (by simp)).trans (World.alloc_heap_new w _)
  have hVs : V.heap.size = w.heap.size + 2 := by simp [V]
  have hVb : Below w.heap.size w V := ((Below.refl _ w).alloc (Nat.le_refl _) _).alloc (by simp) _
  have hXn : Xn X0 w V = fun k => X0 k ∨ (k = w.heap.size ∨ k = w.heap.size + 1) := by
    funext k
    apply propext
    unfold Xn
    rw [hVs]
    constructor
    · rintro (h | ⟨h1, h2⟩)
      · exact .inl h
      · exact .inr (by omega)
    · rintro (h | h)
      · exact .inl h
      · exact .inr (by omega)
  have hput : ∀ {s : List α} {Y : Nat → Prop} {W : World} {o o' : Obj}, I s (fun k => Y k ∨ (k = w.heap.size ∨ k = w.heap.size + 1)) W → W.heap[w.heap.size + 1]? = some o → I s (fun k => Y k ∨ (k = w.heap.size ∨ k = w.heap.size + 1)) (W.putObj (w.heap.size + 1) o') := by
    intro s Y W o o' hs hl
    have h1 := hI s _ W (W.putObj (w.heap.size + 1) o') hs (Grow.putObj (.inr (.inr rfl)) W o') ((Below.refl b0 W).grown (grownBy_putObj' W (w.heap.size + 1) o') (by have := (Array.getElem?_eq_some_iff.1 hl).1; omega) (fun k e => by cases e; omega))
    rwa [Xn.none World.putObj_size] at h1
  refine ⟨w.heap.size + 1, [{ target := .collected w.heap.size, args := #[] }], V, { target := .fn (.func gf) lb, args := #[.func (.yield (w.heap.size + 1)) #[] #[]] }, V, gf,
    #[.func (.yield (w.heap.size + 1)) #[] #[]] ++ lb, V, run_enterLoop_outer _ _ _ _ _, ?_, fun _ _ => trivial, ?_, fun _ => hn, ?_⟩
  · simp only [resolve, hg]
    simp [go_sem]
  · simp [invoke, go_sem, eg]
  refine (hH (w.heap.size + 1)
    (fun pre X W => I pre (fun k => X k ∨ (k = w.heap.size ∨ k = w.heap.size + 1)) W ∧ W.heap[w.heap.size + 1]? = some (.loop (R .ready none)) ∧ W.heap[w.heap.size]? = some (.deferred (some [])) ∧ ¬ X w.heap.size ∧ ¬ X (w.heap.size + 1))
    X0 V (fun k hk => ⟨hk, (hVb.block k (hX0 k hk).1).trans (hX0 k hk).2⟩) (by omega) ?_ ?_
    ⟨by rw [← hXn]; exact hI _ _ _ _ h0 (Grow.of_below hVb _) (hVb.mono hB0), hVl, hVd, fun h => by have := (hX0 _ h).1; omega, fun h => by have := (hX0 _ h).1; omega⟩ (fun k hk => by have := (hX0 k hk).1; omega)).mono ?_
  · -- what the function's own doings leave
    rintro s X W W' ⟨h1, h2, h3, h4, h5⟩ hg' hb'
    have l2 := (Array.getElem?_eq_some_iff.1 h2).1
    have l3 := (Array.getElem?_eq_some_iff.1 h3).1
    refine ⟨?_, (hg'.block _ l2 h5).trans h2, (hg'.block _ l3 h4).trans h3, ?_, ?_⟩
    · have := hI s _ W W' h1 (hg'.wide (fun k hk => .inl hk)) hb'
      rwa [Xn.add (X := X) (fun k => k = w.heap.size ∨ k = w.heap.size + 1)] at this
    · rintro (h | ⟨h, _⟩)
      · exact h4 h
      · omega
    · rintro (h | ⟨h, _⟩)
      · exact h5 h
      · omega
  · -- one round
    rintro pre x Y W1 ⟨hi, hl, hd, n4, n5⟩ hbd hlen
    have l2 := (Array.getElem?_eq_some_iff.1 hl).1
    have l3 := (Array.getElem?_eq_some_iff.1 hd).1
    have hbd2 : Bd (fun k => Y k ∨ (k = w.heap.size ∨ k = w.heap.size + 1)) W1 := by
      rintro k (hk | rfl | rfl)
      · exact hbd k hk
      · exact l3
      · exact l2
    refine ⟨fn, _, assign, body, run_yield (P := Try.prog) (args := #[enc x, enc2 x]) hl rfl, roundIn_of_wpIn hfn (hassign _ pre x _ W1 _ hi hbd2 (.inr (.inr rfl)) (.inr (.inl rfl)) ?_)⟩
    intro a' U hUi hUk hUa
    have hl1 := (hUk.2 _ (.inr (.inr rfl))).trans hl
    have hd1 := (hUk.2 _ (.inr (.inl rfl))).trans hd
    have hlt := (Array.getElem?_eq_some_iff.1 hl1).1
    refine ⟨_, run_beginRound hl1 rfl, ?_⟩
    let Z : World := U.putObj (w.heap.size + 1) (.loop (R .busy none))
    have hl2 : Z.heap[w.heap.size + 1]? = some (.loop (R .busy none)) := World.putObj_heap_same hlt
    have hd2 : Z.heap[w.heap.size]? = some (.deferred (some [])) := (World.putObj_heap_other (by omega)).trans hd1
    have hZs : Z.heap.size = U.heap.size := World.putObj_size
    have hbdZ : Bd (fun k => Y k ∨ (k = w.heap.size ∨ k = w.heap.size + 1)) Z := fun k hk => by
      have := hbd2 k hk
      have := hUk.1
      omega
    refine wpIn_mono (hbody _ pre x a' _ Z (by omega) (hput hUi hl1) hbdZ (hAx _ _ _ _ _ _ hUa (by omega) hl1 rfl) hlen) ?_
    intro e a3 W3 hp
    cases e with
    | normal =>
      obtain ⟨hi3, hk3⟩ := hp
      have hl3 := (hk3.2 _ (.inr (.inr rfl))).trans hl2
      have hd3 := (hk3.2 _ (.inr (.inl rfl))).trans hd2
      refine ⟨_, _, run_endRound none hl3, rfl, ⟨hput hi3 hl3, World.putObj_heap_same (Array.getElem?_eq_some_iff.1 hl3).1, (World.putObj_heap_other (by omega)).trans hd3, n4, n5⟩, ?_, fun k hk => ?_⟩
      · have h1 := hUk.1
        have h3 := hk3.1
        rw [World.putObj_size]
        omega
      · have hne : k ≠ w.heap.size + 1 := fun e => n5 (e ▸ hk)
        exact (World.putObj_heap_other hne).trans ((hk3.2 k (.inl hk)).trans ((World.putObj_heap_other hne).trans (hUk.2 k (.inl hk))))
    | ret => exact hp.elim
    | exit id => exact hp.elim
    | goto t => exact hp.elim
    | panic ch => exact hp.elim
    | outgrown => exact hp.elim
  · -- behind the loop
    rintro e W2 ⟨⟨v, rfl⟩, Y, ⟨hi, hl, hd, n4, n5⟩, hbd⟩
    have l2 := (Array.getElem?_eq_some_iff.1 hl).1
    have l3 := (Array.getElem?_eq_some_iff.1 hd).1
    refine ⟨none, _, run_endLoop (P := Try.prog) hl (by simp [R]), hdone _ _ _ (Nat.le_refl _) (hput hi hl) (fun k hk => ?_) (.inr (.inl rfl)) ((World.putObj_heap_other (by omega)).trans hd)⟩
    rw [World.putObj_size]
    rcases hk with hk | rfl | rfl
    · exact hbd k hk
    · exact l3
    · exact l2
end Go.Proofs.Ytbecambkjmheiaa
/- met: what it hands on are the blocks that a span meets, and which of their bytes are in it. -/
namespace Go.Proofs.Ytbecambkjmheiaa
open Go.RowKit Go.Shelf
attribute [local go_sem] Oper.semAt_some

/-- How many blocks; where a block's part begins, how long it is. -/
def mK (f n : Nat) : Nat := (f + (n - 1)) / 32 - f / 32 + 1
def m0 (f i : Nat) : Nat := max f (32 * (f / 32 + i))
def mL (f n i : Nat) : Nat := min (f + n) (32 * (f / 32 + i) + 32) - m0 f i
abbrev me1 (f i : Nat) : Value := vu (f / 32 + i)
abbrev me2 (f n i : Nat) : Value := .agg #[vu (m0 f i), vu (mL f n i)]
theorem mK_8 {f n : Nat} (h : n ≤ 224) : mK f n ≤ 8 := by unfold mK; omega
theorem m_last {f n i : Nat} (h : i < mK f n) (hn : 1 ≤ n) : f / 32 + i ≤ (f + (n - 1)) / 32 := by unfold mK at h; omega
theorem m_part {f n i : Nat} (h : i < mK f n) (hn : 1 ≤ n) : m0 f i < min (f + n) (32 * (f / 32 + i) + 32) := by
  have := m_last h hn
  unfold m0
  omega

theorem nmet_any (f n : Nat) (w : World) :
    Calls Try.prog 31 #[.agg #[vu f, vu n]] w fun e w' => e = .returned (.func (.func 50) #[] #[.pointer (some ⟨w.heap.size, 0, none⟩)]) ∧ w' = w.alloc (.cells #[vu f, vu n] 25) := by
  go_enter Try.func31, Try.ntmps31
  go_wp2
  go_ret
  exact ⟨rfl, rfl⟩
/-- What the handing function keeps, and a box of its own. -/
def NVM {α : Type} (b0 : Nat) (J : List α → (Nat → Prop) → World → Prop) (W : World) (X0 : Nat → Prop) (M : Nat) (o : Obj) (pre : List α) (wr : World) : Prop :=
  b0 ≤ wr.heap.size ∧ ∃ Y : Nat → Prop, J pre Y wr ∧ Bd Y wr ∧ (∀ k, X0 k → Y k ∧ wr.heap[k]? = W.heap[k]?) ∧ Y M ∧ wr.heap[M]? = some o
section
variable {α : Type} {b0 : Nat} {J : List α → (Nat → Prop) → World → Prop} {W wr w3 : World} {X0 : Nat → Prop} {M : Nat} {o : Obj} {pre : List α}
theorem NVM.below (h : NVM b0 J W X0 M o pre wr) (hJ : AbN2 b0 J) (hb : Below wr.heap.size wr w3) : NVM b0 J W X0 M o pre w3 := by
  obtain ⟨h0, Y, h1, h2, h3, h4, h5⟩ := h
  exact ⟨Nat.le_trans h0 hb.size, Xn Y wr w3, hJ _ _ _ _ h1 (Grow.of_below hb Y) (hb.mono h0), Xn.bd h2 hb.size, fun k hk => ⟨.inl (h3 k hk).1, (hb.block _ (h2 _ (h3 k hk).1)).trans (h3 k hk).2⟩, .inl h4, (hb.block _ (h2 _ h4)).trans h5⟩
theorem NVM.give (h : NVM b0 J W X0 M o pre wr) : ∃ Y, J pre Y wr ∧ Bd Y wr ∧ ∀ (W4 : World) (q : List α), J q Y W4 → Keep Y wr W4 → NVM b0 J W X0 M o q W4 := by
  obtain ⟨h0, Y, h1, h2, h3, h4, h5⟩ := h
  exact ⟨Y, h1, h2, fun W4 q hq hk => ⟨Nat.le_trans h0 hk.1, Y, hq, fun k hkk => Nat.lt_of_lt_of_le (h2 k hkk) hk.1, fun k hx => ⟨(h3 k hx).1, (hk.2 k (h3 k hx).1).trans (h3 k hx).2⟩, h4, (hk.2 M h4).trans h5⟩⟩
theorem NVM.blk {t : TypeId} {cs : Array Value} (h : NVM b0 J W X0 M (.cells cs t) pre wr) : Blk wr M t cs := by
  obtain ⟨_, _, _, _, _, _, h5⟩ := h
  exact h5
theorem NVM.old {k : Nat} (h : NVM b0 J W X0 M o pre wr) (hk : X0 k) : wr.heap[k]? = W.heap[k]? := by
  obtain ⟨_, _, _, _, h3, _⟩ := h
  exact (h3 k hk).2
end

set_option maxRecDepth 100000 in
set_option maxHeartbeats 4000000 in
theorem nmet_hands (b0 n : Nat) (hn : 1 ≤ n) (B f len : Nat) (w : World) (hB : Blk w B 25 #[vu f, vu len]) (h1 : 1 ≤ len) (h2 : len ≤ 224) (h3 : f + len ≤ 18446744073709551616) :
    HandsN2 b0 n 50 #[.pointer (some ⟨B, 0, none⟩)] (me1 f) (me2 f len) (List.range (mK f len)) (fun k => k = B) w := by
  intro l J X W hX hb0 hJ hY h0 hbd
  have hBW : Blk W B 25 #[vu f, vu len] := (hX B rfl).2.trans hB
  have cB0 : W.cell? ⟨B, 0, none⟩ = some (vu f) := hBW.cell 0
  have cB1 : W.cell? ⟨B, 1, none⟩ = some (vu len) := hBW.cell 1
  have HC : Hid (∀ V, Calls Try.prog 51 #[.agg #[vu f, vu len], .int .u64 32] V fun e w' => e = .returned (.tuple #[.agg #[vu (f / 32), vu (mK f len)], .int .i64 0]) ∧ Below V.heap.size V w') := Lib.hid fun V => by
    have := cover_ok (f : Int) (len : Int) 32 ((f / 32 : Nat) : Int) (((f + (len - 1)) / 32 : Nat) : Int) V (by omega) (by omega) (by omega) (by omega) (by omega) (Lib.hid ⟨by omega, by omega⟩)
    have e : (((f + (len - 1)) / 32 : Nat) : Int) - ((f / 32 : Nat) : Int) + 1 = ((mK f len : Nat) : Int) := by unfold mK; omega
    rw [e] at this
    exact this
  have HT : Hid (∀ V k, k < mK f len → Calls Try.prog 52 #[.agg #[vu f, vu len], .agg #[.int .u64 (((f / 32 + k : Nat) : Int) * 32), .int .u64 32]] V fun e w' => e = .returned (.tuple #[me2 f len k, .int .i64 0]) ∧ Below V.heap.size V w') := Lib.hid fun V k hk => by
    have hl := m_last hk h1
    have hp := m_part hk h1
    have := cut_meet (f : Int) (len : Int) (((f / 32 + k : Nat) : Int) * 32) 32 V (by omega) (by omega) (by omega) (by omega) (by omega) (by omega) (by omega) (by unfold m0 at hp; omega)
    have e1 : max (f : Int) (((f / 32 + k : Nat) : Int) * 32) = ((m0 f k : Nat) : Int) := by unfold m0; omega
    have e2 : min ((f : Int) + ((len : Int) - 1)) (((f / 32 + k : Nat) : Int) * 32 + (32 - 1)) - ((m0 f k : Nat) : Int) + 1 = ((mL f len k : Nat) : Int) := by unfold mL; omega
    rw [e1, e2] at this
    exact this
  have HX0 : Hid (∀ (V : World) (cs : Array Value), Below W.heap.size W V → NVM b0 J W (fun k => k = B) V.heap.size (.cells cs 25) [] (V.alloc (.cells cs 25))) := Lib.hid fun V cs hb => by
    have hb2 := ba hb (.cells cs 25)
    refine ⟨Nat.le_trans hb0 hb2.size, Xn X W _, hJ _ _ _ _ h0 (Grow.of_below hb2 X) (hb2.mono hb0), Xn.bd hbd hb2.size, fun k hk => ⟨.inl (hX k hk).1, hb2.block _ (hbd _ (hX k hk).1)⟩, .inr ⟨hb.size, by simp⟩, heap_alloc_new V _⟩
  have HBB : Hid (∀ M o pre wr, NVM b0 J W (fun k => k = B) M o pre wr → wr.cell? ⟨B, 0, none⟩ = some (vu f) ∧ wr.cell? ⟨B, 1, none⟩ = some (vu len)) := Lib.hid fun M o pre wr h => by
    have h9 : Blk wr B 25 #[vu f, vu len] := (h.old rfl).trans hBW
    exact ⟨h9.cell 0, h9.cell 1⟩
  have HY := Lib.hid hY
  have HJ := Lib.hid hJ
  have HK8 : mK f len ≤ 8 := mK_8 h2
  have HKL : Hid (∀ k, k < mK f len → f / 32 + k ≤ 576460752303423487) := Lib.hid fun k hk => by have := m_last hk h1; omega
  clear hX hJ hY h0 hbd hB hBW
  generalize mK f len = K at *
  obtain ⟨a, ha⟩ : ∃ a, f / 32 = a := ⟨_, rfl⟩
  have HA := Lib.hid ha
  simp only [ha] at HC HKL HT
  simp only [me1, ha] at HY
  refine callsIn_of_wp Try.func50 rfl trivial ?_ rfl
  simp only [Try.ntmps50, List.size_toArray, List.length_cons, List.length_nil, Nat.reduceAdd, Nat.reduceSub, Array.replicate_succ, Array.replicate_zero, List.push_toArray, List.append_toArray, List.nil_append, List.cons_append]
  gi_wp2_with fail
  refine ⟨trivial, ?_⟩
  refine (callsIn_wide.2 (HC.out _)).mono ?_
  rintro e w1 ⟨rfl, hb1⟩
  have HM := Lib.hid (HX0.out w1 #[vu a, vu K] hb1)
  clear hb1
  gi_wp2
  gi_loopw [16] (fun iv wr => ∃ k : Nat, k ≤ K ∧ iv = .int .u64 k ∧ Hid (NVM b0 J W (fun k => k = B) w1.heap.size (.cells #[vu a, vu K] 25) (List.range k) wr)) (fun i _ => K - (intOf i).toNat)
  case atStart => exact ⟨0, Nat.zero_le _, rfl, HM⟩
  case round =>
    obtain ⟨k, hk, rfl, HI⟩ := hrel
    by_cases hlt : k < K
    · have r0 : wr.cell? ⟨w1.heap.size, 0, none⟩ = some (vu a) := HI.out.blk.cell 0
      obtain ⟨q0, q1⟩ := HBB.out _ _ _ _ HI.out
      have hak := HKL.out k hlt
      have hw1 : IntKind.u64.wrap ((a : Int) + (k : Int)) = ((a + k : Nat) : Int) := by rw [IntWalk.u64_in _ ⟨by omega, by omega⟩]; omega
      have hw2 : IntKind.u64.wrap (((a : Int) + (k : Int)) * 32) = ((a + k : Nat) : Int) * 32 := by rw [IntWalk.u64_in _ ⟨by omega, by omega⟩]; omega
      have hw3 : IntKind.u64.wrap ((k : Int) + 1) = ((k + 1 : Nat) : Int) := by rw [IntWalk.u64_in _ ⟨by omega, by omega⟩]; omega
      have HT1 := Lib.hid (fun V => HT.out V k hlt)
      have HP : Hid (List.range k ++ [k] <+: List.range K) := Lib.hid (by
        rw [← List.range_succ]
        obtain ⟨d, rfl⟩ : ∃ d, K = k + 1 + d := ⟨K - (k + 1), by omega⟩
        rw [List.range_add]
        exact List.prefix_append _ _)
      gi_wp2_with fail
      refine ⟨trivial, ?_⟩
      refine (callsIn_wide.2 (HT1.out _)).mono ?_
      rintro e w3 ⟨rfl, hb3⟩
      have HI3 := Lib.hid (HI.out.below HJ.out hb3)
      have HI4 := Lib.hid (HI3.out.below HJ.out (ba (Below.refl _ _) (.cells #[vu (m0 f k), vu (mL f len k)] 25)))
      obtain ⟨Y, y1, y2, y3⟩ := HI4.out.give
      obtain ⟨fn, tmps, assign, body, hy, hR⟩ := HY.out (List.range k) k Y _ y1 y2 HP.out
      have HY3 := Lib.hid y3
      simp only [vu, me2, Int.natCast_add] at hy
      clear hb3 y1 y2 y3 q0 q1
      gi_wp2_with fail
      refine hR.mono ?_
      rintro e W4 ⟨rfl, hJ4, hk4⟩
      have HM4 := Lib.hid (HY3.out W4 _ hJ4 hk4)
      clear hJ4 hk4
      gi_wp2
      go_roundw
      case rel => exact ⟨k + 1, by omega, by go_num, by rw [List.range_succ]; exact HM4⟩
      case measure => simp [intOf]; omega
    · obtain rfl : k = K := by omega
      obtain ⟨_, Y, y1, y2, _⟩ := HI.out
      gi_wp2
      go_end0
      exact ⟨⟨_, rfl⟩, Y, y1, y2⟩
theorem nmet_enters : ∀ args w, (callFunc 50 args).run Try.prog w = .ok (.enter 50 args) w := enters_of Try.func50 (by kernel_rfl) rfl
end Go.Proofs.Ytbecambkjmheiaa
/- copy and clear over rows whose elements have several cells. Nothing of any function. -/
namespace Go.Proofs.Ytbecambkjmheiaa
open Go.RowKit

theorem grownBy_setRow (w : World) (g : Nat) (cs : Array Value) : w.grownBy (w.setRow g cs) (some g) :=
  ⟨rfl, rfl, rfl, by simp, fun k _ hk => setRow_other w g k cs (fun e => hk (by rw [e]))⟩
theorem splice_at {α : Type} (A B cs : List α) (o : Nat) (h : A.length = o) : splice (A ++ B) o cs = A ++ (cs ++ B.drop cs.length) := by
  subst h
  unfold splice
  rw [List.take_left, List.drop_append, List.drop_of_length_le (by omega), List.nil_append]
  congr 3
  omega

section
variable {P : Program}
/-- Where nothing goes over. -/
theorem copyN_none (w : World) (dT sT ty elem : TypeId) (size : Nat) (d a : Option Addr) (dLen dCap sLen sCap : Nat) (hu : P.underlying dT = some (.slice elem)) (hs : (P.info? elem).map (·.size) = some size) (hn : Nat.min sLen dLen = 0) :
    (Builtin.copy_ #[dT, sT] ty #[.slice d dLen dCap, .slice a sLen sCap]).run P w = .ok (goInt 0) w := by
  cases hq : P.info? elem with
  | none => simp [hq] at hs
  | some i =>
    have hl : ∀ (x : Addr), (loadCells x 0).run P w = .ok #[] w := fun x => by simpa using run_loadCells_list (P := P) w x [] (by simp)
    cases d <;> cases a <;> simp [Builtin.copy_, run_underlying hu, Builtin.lenOf, Builtin.firstCells, sizeOf, typeInfo, hq, hn, storeCells, hl]
/-- Elements of several cells go over into a row. -/
theorem copyN_row (w : World) (dT sT ty elem : TypeId) (size m g o dLen dCap : Nat) (a : Addr) (sLen sCap : Nat) (cur : Array Value) (t : TypeId) (cs : List Value)
    (hu : P.underlying dT = some (.slice elem)) (hs : (P.info? elem).map (·.size) = some size)
    (hg : w.heap[g]? = some (.cells cur t (0, 0))) (hn : m = Nat.min sLen dLen) (hc : cs.length = m * size)
    (hsrc : ∀ j v, cs[j]? = some v → w.cell? (a.add j) = some v) (hfit : o + cs.length ≤ cur.size) (h1 : ∀ v ∈ cs, v.oneCell' = true) :
    (Builtin.copy_ #[dT, sT] ty #[.slice (some ⟨g, o, none⟩) dLen dCap, .slice (some a) sLen sCap]).run P w =
      .ok (goInt m) (w.setRow g (splice cur.toList o cs).toArray) := by
  have hl := run_loadCells_list (P := P) w a cs hsrc
  have hst := run_storeCells_at P g o t cs 0 cur w hg (by simpa using hfit) h1
  cases hq : P.info? elem with
  | none => simp [hq] at hs
  | some i =>
    have hi : i.size = size := by simpa [hq] using hs
    have hl2 : (loadCells a (Nat.min sLen dLen * size)).run P w = .ok cs.toArray w := by rw [← hn, ← hc]; exact hl
    simp [Builtin.copy_, run_underlying hu, Builtin.lenOf, Builtin.firstCells, sizeOf, typeInfo, hq, hi, ← hn, splice]
    rw [← hn] at hl2
    simp [hl2, hst]
end

theorem zeroCells_len (z : Array Value) (n : Nat) : (Builtin.zeroCells z n).size = n * z.size := by simp [Builtin.zeroCells]
theorem zeroCells_one (z : Array Value) (hz : ∀ v ∈ z, v.oneCell' = true) (n : Nat) : ∀ v ∈ (Builtin.zeroCells z n).toList, v.oneCell' = true := by
  intro v hv
  simp only [Builtin.zeroCells, Array.toList_map, List.mem_map] at hv
  obtain ⟨i, hi, rfl⟩ := hv
  have hp : 0 < z.size := by
    rcases Nat.eq_zero_or_pos z.size with h | h
    · rw [h] at hi; simp at hi
    · exact h
  have hlt : i % z.size < z.size := Nat.mod_lt _ hp
  rw [getElem!_pos z _ hlt]
  exact hz _ (Array.getElem_mem hlt)
section
variable {P : Program}
/-- clear over some elements of a row. -/
theorem clearN_row (w : World) (t ty e : TypeId) (z : Value) (ht : P.underlying t = some (.slice e)) (hv : ∀ w, (zeroValue e).run P w = .ok z w) (g o n c : Nat) (hn : 0 < n) (cur : Array Value) (tt : TypeId)
    (hg : w.heap[g]? = some (.cells cur tt (0, 0))) (hfit : o + n * z.cells.size ≤ cur.size) (h1 : ∀ v ∈ z.cells, v.oneCell' = true) :
    (Builtin.clear_ #[t] ty #[.slice (some ⟨g, o, none⟩) n c]).run P w = .ok (.tuple #[]) (w.setRow g (splice cur.toList o (Builtin.zeroCells z.cells n).toList).toArray) := by
  have hst := run_storeCells_at P g o tt (Builtin.zeroCells z.cells n).toList 0 cur w hg (by simpa [zeroCells_len] using hfit) (zeroCells_one _ h1 _)
  obtain ⟨m, rfl⟩ : ∃ m, n = m + 1 := ⟨n - 1, by omega⟩
  simp [Builtin.clear_, run_underlying ht, hv, splice] at hst ⊢
  simp [hst]
/-- append of new zero elements, without room. -/
theorem appendZ_grow (w : World) (t tn ty e : TypeId) (i : TypeInfo) (z : Value) (k kn : IntKind) (ht : P.underlying t = some (.slice e)) (htn : P.underlying tn = some (.int kn)) (hi : P.info? e = some i) (hz : i.zero = some z)
    (b : Addr) (sLen sCap : Nat) (olds : List Value) (hlo : olds.length = sLen * i.size) (holds : ∀ j v, olds[j]? = some v → w.cell? (b.add j) = some v)
    (n : Nat) (h0 : 0 < n) (hs : 0 < i.size) (hg : sCap < sLen + n) (h63 : sLen + n ≤ 65536) (hb : i.bytes ≤ 65536) :
    (Builtin.append_ #[t, tn] ty #[.slice (some b) sLen sCap, .int k n]).run P w =
      .ok (.slice (some ⟨w.heap.size, 0, none⟩) (sLen + n) (grownCap w (sLen + n) sCap e)) (w.drew.alloc (.cells (olds.toArray ++ Builtin.zeroCells z.cells n ++ Builtin.zeroCells z.cells (grownCap w (sLen + n) sCap e - (sLen + n))) e)) := by
  have hn : ¬ (sLen + n ≤ sCap) := by omega
  have hw : IntKind.i64.wrap (n : Int) = n := by rw [IntKind.wrap_i64]; omega
  have h63' : ¬ (9223372036854775807 < ((sLen : Int) + (n : Int))) := by omega
  have hfit : Builtin.nextslicecap (sLen + n) sCap * i.bytes ≤ 281474976710656 := growslice_fits (by omega) (by
    have : (sLen + n) * i.bytes ≤ 65536 * 65536 := Nat.mul_le_mul h63 hb
    omega)
  have h48' : ¬ (281474976710656 < Builtin.nextslicecap (sLen + n) sCap * i.bytes) := by omega
  have h48i : ¬ (281474976710656 < (n : Int) * (i.bytes : Int)) := by
    rw [← Int.natCast_mul]
    have : n * i.bytes ≤ 65536 * 65536 := Nat.mul_le_mul (by omega) hb
    omega
  have hneg : ¬ ((n : Int) < 0) := by omega
  have hns : ¬ (n * i.size = 0) := Nat.mul_ne_zero (by omega) (by omega)
  have hfo := run_firstCells_some (P := P) w.drew i.size sLen b sLen sCap olds hlo (by simpa using holds)
  simp [Builtin.append_, run_underlying ht, run_underlying htn, sizeOf, typeInfo, zeroValue, hi, hz, asInt, asIntOf, hw, hn, hneg, hns, h63', h48', h48i, Question.forced, hfo, newRow, grownCap]
end
theorem wp_clear_run (w : World) {P : Program} {o : Oper} {a : Act} {K : Act → World → Prop} {Q : Exit → Act → World → Prop} (x : Operand) (t : TypeId)
    (ho : o.op = .call { callee := .builtin .clear, args := #[x], argTypes := #[t] }) (v : Value) (hx : a.eval x = v)
    (v' : Value) (w' : World) (hr : (Builtin.clear_ #[t] o.type #[v]).run P w = .ok v' w') (h : K (a.put o.dst v') w') : o.wp P a w K Q := by
  unfold Oper.wp execOp
  simp only [ho, resolve, invoke, builtin, Sem.run_bind, Sem.run_pure, Result.andThen_ok, List.map_toArray, List.map_cons, List.map_nil, hx, hr]
  exact h
theorem wpList_clear_run (w : World) {P : Program} {ops : Array Oper} {rest : List Oper} {o : Oper} {a : Act} {Q : Exit → Act → World → Prop} (hgd : o.guard = none) (x : Operand) (t : TypeId)
    (ho : o.op = .call { callee := .builtin .clear, args := #[x], argTypes := #[t] }) (v : Value) (hx : a.eval x = v)
    (v' : Value) (w' : World) (hr : (Builtin.clear_ #[t] o.type #[v]).run P w = .ok v' w') (h : wpList P ops Q rest (a.put o.dst v') w') : wpList P ops Q (o :: rest) a w :=
  wpList_plain hgd fun _ hK => wp_clear_run w x t ho v hx v' w' hr (hK _ _ h)
theorem wp_copy_run' (w : World) {P : Program} {o : Oper} {a : Act} {K : Act → World → Prop} {Q : Exit → Act → World → Prop} (d s : Operand) (t t' : TypeId)
    (ho : o.op = .call { callee := .builtin .copy, args := #[d, s], argTypes := #[t, t'] }) (v u : Value) (hd : a.eval d = v) (hs : a.eval s = u) {v' : Value} {w' : World}
    (hr : (Builtin.copy_ #[t, t'] o.type #[v, u]).run P w = .ok v' w') (h : K (a.put o.dst v') w') : o.wp P a w K Q := by
  unfold Oper.wp execOp
  simp only [ho, resolve, invoke, builtin, Sem.run_bind, Sem.run_pure, Result.andThen_ok, List.map_toArray, List.map_cons, List.map_nil, hd, hs, hr]
  exact h
theorem wpList_copy_run' (w : World) {P : Program} {ops : Array Oper} {rest : List Oper} {o : Oper} {a : Act} {Q : Exit → Act → World → Prop} (hgd : o.guard = none) (d s : Operand) (t t' : TypeId)
    (ho : o.op = .call { callee := .builtin .copy, args := #[d, s], argTypes := #[t, t'] }) (v u : Value) (hd : a.eval d = v) (hs : a.eval s = u) {v' : Value} {w' : World}
    (hr : (Builtin.copy_ #[t, t'] o.type #[v, u]).run P w = .ok v' w') (h : wpList P ops Q rest (a.put o.dst v') w') : wpList P ops Q (o :: rest) a w :=
  wpList_plain hgd fun _ hK => wp_copy_run' w d s t t' ho v u hd hs hr (hK _ _ h)
theorem step_copy_run' {P : Program} {ops : Array Oper} {o : Oper} {a : Act} {w : World} {K : Act → World → Prop} {Q : Exit → Act → World → Prop} {E : Prop}
    (hg : o.guard = none) (d x : Operand) (dT sT : TypeId) (hop : o.op = Op.call { callee := Callee.builtin Builtin.copy, args := #[d, x], argTypes := #[dT, sT] })
    (v u : Value) (hd : a.eval d = v) (hx : a.eval x = u) {v' : Value} {w' : World} (hr : (Builtin.copy_ #[dT, sT] o.type #[v, u]).run P w = .ok v' w') (hK : K (a.put o.dst v') w') :
    if Region.wanted o (yielded ops a.tmps) = true then Oper.wp P o a w K Q else E := by
  have hw : Region.wanted o (yielded ops a.tmps) = true := by simp [Region.wanted, hg]
  rw [if_pos hw]
  unfold Oper.wp
  simp [execOp, hop, resolve, invoke, builtin, hd, hx, hr, Result.andThen]
  exact hK
end Go.Proofs.Ytbecambkjmheiaa
/- The contract of slices.Insert over a row of cells that the call owns. -/
namespace Go.Proofs.Ytbecambkjmheiaa
open Go.RowKit Go.Lib

/-- A row of cells that the call owns. -/
abbrev NO (w : World) (base : Nat) (v : Value) (n : Nat) (L : List CL) : Prop := w.ownsRow base 45 3 v n (ccells L)
/-- What a change of such a row leaves. -/
def NStep (w w' : World) (base : Nat) (v v' : Value) (L' : List CL) : Prop :=
  NO w' base v' L'.length L' ∧ w.grownBy w' v.ownBlock ∧ (v'.ownBlock = v.ownBlock ∨ v'.ownBlock = some w.heap.size)
theorem grownBy_drew {w w' : World} {row : Option Nat} (h : w.drew.grownBy w' row) : w.grownBy w' row := ⟨h.os, h.tape, h.output, h.size, h.block⟩
theorem grownBy_alloc_any {w w' : World} {row : Option Nat} (h : w.grownBy w' row) (o : Obj) : w.grownBy (w'.alloc o) row :=
  ⟨h.os, h.tape, h.output, by have := h.size; simp; omega, fun k hk hn => (heap_alloc_old w' o (by have := h.size; omega)).trans (h.block k hk hn)⟩
theorem no_len {w : World} {base n : Nat} {v : Value} {L : List CL} (h : NO w base v n L) : L.length = n := by
  have := h.1
  rw [ccells_len] at this
  omega
/-- The row's block, whole. -/
theorem no_cur {w : World} {base n c : Nat} {A : Option Addr} {L : List CL} (h : NO w base (.slice A n c) n L) :
    (A = none ∧ n = 0 ∧ c = 0 ∧ L = []) ∨ ∃ g R, A = some ⟨g, 0, none⟩ ∧ base ≤ g ∧ Blk w g 45 (ccells L ++ R).toArray ∧ n ≤ c ∧ c ≤ maxLen ∧ R.length = (c - n) * 3 := by
  have hl := no_len h
  rcases h.2 with ⟨h1, h2⟩ | ⟨g, cap, cur, hv, hg, hh, h1, h2, h3, h4⟩
  · cases h1
    exact .inl ⟨rfl, rfl, rfl, List.eq_nil_of_length_eq_zero hl⟩
  · injection hv with e1 e2 e3
    subst e3
    have hc : cur = (ccells L ++ cur.toList.drop (n * 3)).toArray := by
      rw [← h4, List.take_append_drop]
    refine .inr ⟨g, cur.toList.drop (n * 3), e1, hg, ?_, h1, h2, ?_⟩
    · rw [← hc]; exact hh
    · simp [h3, Nat.sub_mul]
theorem no_of {w : World} {base n c g : Nat} {L : List CL} {R : List Value} (hg : base ≤ g) (hb : Blk w g 45 (ccells L ++ R).toArray) (hl : L.length = n) (hn : n ≤ c) (hc : c ≤ maxLen) (hR : R.length = (c - n) * 3) :
    NO w base (.slice (some ⟨g, 0, none⟩) n c) n L := by
  refine ⟨by rw [ccells_len, hl], .inr ⟨g, c, _, rfl, hg, hb, hn, hc, ?_, ?_⟩⟩
  · simp [ccells_len, hl, hR, Nat.sub_mul]
    have : n * 3 ≤ c * 3 := by omega
    omega
  · have : (ccells L).length = n * 3 := by rw [ccells_len, hl]
    rw [← this]
    exact List.take_left

theorem infoNz : ∀ w, (zeroValue 45).run Try.prog w = .ok (.agg #[.int .u64 0, .int .i64 0, .string ⟨#[]⟩]) w := by
  obtain ⟨ti, hi0, hz0, hz1, hz2⟩ := info_parts infoN
  intro w
  simp [zeroValue, typeInfo, hi0, hz0]
theorem sizeNz : (Try.prog.info? 45).map (·.size) = some 3 := by kernel_rfl

set_option maxHeartbeats 4000000 in
set_option maxRecDepth 100000 in
/-- At the end. -/
theorem nins_end (A : Option Addr) (n c vb m vc base : Nat) (L V : List CL) (w : World) (ho : NO w base (.slice A n c) n L) (hV : Blk w vb 45 (ccells V).toArray) (hm : V.length = m) (h0 : 0 < m) (hn : n + m ≤ 4096) (hb : base ≤ w.heap.size) :
    Calls Try.prog 76 #[.slice A n c, .int .i64 (n : Int), .slice (some ⟨vb, 0, none⟩) m vc] w fun e w' => ∃ v', e = .returned v' ∧ NStep w w' base (.slice A n c) v' (L ++ V) := by
  obtain ⟨ti, hi, hz0, hz1, hz2⟩ := info_parts infoN
  have hln := no_len ho
  obtain ⟨v', w', hr, k1, k2, _, k4⟩ := run_append_own_at (P := Try.prog) w base 22 22 45 ti _ 3 32 Try.underlying22 hi hz0 hz1 hz2 rfl (by decide) (.slice A n c) n (ccells L) ho ⟨vb, 0, none⟩ m vc (ccells V) (by rw [ccells_len, hm])
    (fun j u hj => by rw [Addr.add_lit, Nat.zero_add, hV.cell, List.getElem?_toArray]; exact hj) (ccells_one V) (by unfold maxLen; omega) (by omega) hb
  have hz : ¬ ((m : Int) = 0) := by omega
  have hnc : n ≤ c := by
    rcases no_cur ho with ⟨_, h1, h2, _⟩ | ⟨_, _, _, _, _, h1, _⟩ <;> omega
  have HS : Hid (NStep w w' base (.slice A n c) v' (L ++ V)) := Lib.hid ⟨by rw [← ccells_more] at k1; rw [List.length_append, hln, hm]; exact k1, k2, k4⟩
  clear k1 k2 k4 ho hV hz2 hz1 hz0 hi
  rcases Nat.eq_or_lt_of_le hnc with hcn | hcn
  · subst hcn
    go_enter Try.func76, Try.ntmps76
    go_wp2_with (at_builtin; refine Lib.wpList_append_run _ rfl _ _ 22 22 rfl _ _ rfl rfl _ _ hr ?_)
    go_ret
    exact ⟨v', rfl, HS.out⟩
  · have hcn2 : ¬ (c = n) := by omega
    go_enter Try.func76, Try.ntmps76
    go_wp2_with (at_builtin; refine Lib.wpList_append_run _ rfl _ _ 22 22 rfl _ _ rfl rfl _ _ hr ?_)
    go_ret
    exact ⟨v', rfl, HS.out⟩
end Go.Proofs.Ytbecambkjmheiaa
/- slices.Insert over a row of cells that the call owns: ahead of others, with room and without. -/
namespace Go.Proofs.Ytbecambkjmheiaa
open Go.RowKit Go.Lib

theorem nins_shift {X Y R V : List Value} {a b : Nat} (hX : X.length = a) (hV : V.length = b) (hR : b ≤ R.length) :
    ∃ R', splice (splice (X ++ (Y ++ R)) (a + b) Y) a V = X ++ (V ++ (Y ++ R')) ∧ R'.length = R.length - b := by
  obtain ⟨M, hM, hMl⟩ : ∃ M, (Y ++ R).take b = M ∧ M.length = b := ⟨_, rfl, by simp; omega⟩
  have e1 : X ++ (Y ++ R) = (X ++ M) ++ (Y ++ R).drop b := by rw [← hM, List.append_assoc, List.take_append_drop]
  have e2 : (Y ++ R).drop b = ((Y ++ R).drop b).take Y.length ++ ((Y ++ R).drop b).drop Y.length := by rw [List.take_append_drop]
  rw [e1, splice_at _ _ _ _ (by simp [hX, hMl]), List.append_assoc, splice_at _ _ _ _ hX, hV]
  rw [show (M ++ (Y ++ ((Y ++ R).drop b).drop Y.length)).drop b = Y ++ ((Y ++ R).drop b).drop Y.length by rw [List.drop_left' hMl]]
  exact ⟨_, rfl, by simp; omega⟩
theorem nins_fill {X Z V Y : List Value} {a b : Nat} (hX : X.length = a) (hV : V.length = b) :
    splice (splice (X ++ Z) a V) (a + b) Y = X ++ (V ++ (Y ++ (Z.drop b).drop Y.length)) := by
  rw [splice_at _ _ _ _ hX, ← List.append_assoc, splice_at _ _ _ _ (by simp [hX, hV]), hV, List.append_assoc]
theorem blk_setRow {w : World} {g : Nat} {t : TypeId} {cs : Array Value} (h : Blk w g t cs) (cs' : Array Value) : Blk (w.setRow g cs') g t cs' := setRow_heap w g cs cs' t (0, 0) h
theorem blk_setRow_far {w : World} {g k : Nat} {t : TypeId} {cs : Array Value} (h : Blk w k t cs) (hk : k ≠ g) (cs' : Array Value) : Blk (w.setRow g cs') k t cs := (setRow_other w g k cs' hk).trans h

set_option maxHeartbeats 4000000 in
set_option maxRecDepth 100000 in
/-- Ahead of others, with room. -/
theorem nins_room (A : Option Addr) (n c i vb m vc base : Nat) (L V : List CL) (w : World) (ho : NO w base (.slice A n c) n L) (hV : Blk w vb 45 (ccells V).toArray) (hvb : (Value.slice A n c).ownBlock ≠ some vb) (hm : V.length = m) (h0 : 0 < m) (hn : n + m ≤ 4096) (hi : i < n) (hroom : n + m ≤ c) :
    Calls Try.prog 76 #[.slice A n c, .int .i64 (i : Int), .slice (some ⟨vb, 0, none⟩) m vc] w fun e w' => ∃ v', e = .returned v' ∧ NStep w w' base (.slice A n c) v' (L.take i ++ V ++ L.drop i) := by
  have hln := no_len ho
  rcases no_cur ho with ⟨_, h1, _, _⟩ | ⟨g, R, rfl, hbg, hB, hnc, hcm, hR⟩
  · omega
  have hne : vb ≠ g := fun e => hvb (by rw [e]; rfl)
  have hX : (ccells (L.take i)).length = i * 3 := by rw [ccells_len, List.length_take, hln]; omega
  have hY : (ccells (L.drop i)).length = (n - i) * 3 := by rw [ccells_len, List.length_drop, hln]
  have hVl : (ccells V).length = m * 3 := by rw [ccells_len, hm]
  have hcur : ccells L ++ R = ccells (L.take i) ++ (ccells (L.drop i) ++ R) := by rw [← List.append_assoc, ← ccells_more, List.take_append_drop]
  obtain ⟨R', hsp, hR'⟩ := nins_shift (Y := ccells (L.drop i)) (R := R) hX hVl (by rw [hR]; omega)
  rw [hcur] at hB
  have hRl : R.length = (c - n) * 3 := hR
  obtain ⟨cur, hcur2⟩ : ∃ cur, ccells (L.take i) ++ (ccells (L.drop i) ++ R) = cur := ⟨_, rfl⟩
  have hcl : cur.length = c * 3 := by rw [← hcur2]; simp [hX, hY, hRl]; omega
  rw [hcur2] at hB hsp
  have hsrc : ∀ j v, (ccells (L.drop i))[j]? = some v → w.drew.cell? ((⟨g, i * 3, none⟩ : Addr).add j) = some v := fun j v hj => by
    rw [Addr.add_lit, (Blk.drew hB).cell, List.getElem?_toArray, ← hcur2, List.getElem?_append_right (by omega), List.getElem?_append_left (by
      have := (List.getElem?_eq_some_iff.1 hj).1; omega), hX, Nat.add_sub_cancel_left]
    exact hj
  have hcp1 : ∀ ty dc sc, (Builtin.copy_ #[22, 22] ty #[.slice (some ⟨g, (i + m) * 3, none⟩) (n + m - (i + m)) dc, .slice (some ⟨g, i * 3, none⟩) (n + m - i) sc]).run Try.prog w.drew = .ok (goInt ((n - i : Nat) : Int)) (w.drew.setRow g (splice cur ((i + m) * 3) (ccells (L.drop i))).toArray) := fun ty dc sc => by
    have := copyN_row (P := Try.prog) w.drew 22 22 ty 45 3 (n - i) g ((i + m) * 3) (n + m - (i + m)) dc ⟨g, i * 3, none⟩ (n + m - i) sc cur.toArray 45 (ccells (L.drop i)) Try.underlying22 sizeNz (Blk.drew hB) (by simp only [Nat.min_def]; split <;> omega) hY hsrc (by simp [hcl, hY]; omega) (ccells_one _)
    simpa using this
  obtain ⟨W1, hW1⟩ : ∃ W1, W1 = w.drew.setRow g (splice cur ((i + m) * 3) (ccells (L.drop i))).toArray := ⟨_, rfl⟩
  have hB1 : Blk W1 g 45 (splice cur ((i + m) * 3) (ccells (L.drop i))).toArray := by rw [hW1]; exact blk_setRow (Blk.drew hB) _
  have hV1 : Blk W1 vb 45 (ccells V).toArray := by rw [hW1]; exact blk_setRow_far (Blk.drew hV) hne _
  have hG1 : w.grownBy W1 (some g) := by rw [hW1]; exact grownBy_drew (grownBy_setRow _ _ _)
  rw [← hW1] at hcp1
  have hl1 : (splice cur ((i + m) * 3) (ccells (L.drop i))).length = c * 3 := by rw [length_splice _ _ _ (by rw [hcl, hY]; omega), hcl]
  have hmm : (i + m) * 3 = i * 3 + m * 3 := by omega
  rw [hmm] at hB1 hl1
  have hcp2 : ∀ (W : World), W.heap = W1.heap → ∀ ty dc, (Builtin.copy_ #[22, 22] ty #[.slice (some ⟨g, i * 3, none⟩) (n + m - i) dc, .slice (some ⟨vb, 0, none⟩) m vc]).run Try.prog W = .ok (goInt m) (W.setRow g (ccells (L.take i) ++ (ccells V ++ (ccells (L.drop i) ++ R'))).toArray) := fun W hW ty dc => by
    have := copyN_row (P := Try.prog) W 22 22 ty 45 3 m g (i * 3) (n + m - i) dc ⟨vb, 0, none⟩ m vc (splice cur (i * 3 + m * 3) (ccells (L.drop i))).toArray 45 (ccells V) Try.underlying22 sizeNz (by rw [hW]; exact hB1) (by simp only [Nat.min_def]; split <;> omega) hVl
      (fun j v hj => by rw [Addr.add_lit, Nat.zero_add, Blk.cell (show Blk W vb 45 (ccells V).toArray from (by unfold Blk; rw [hW]; exact hV1)), List.getElem?_toArray]; exact hj) (by simp [hl1, hVl]; omega) (ccells_one _)
    rw [this]
    simp only [hsp]
  have HF : Hid (∀ W : World, W.heap = W1.heap → W.os = W1.os → W.tape = W1.tape → W.output = W1.output → NStep w (W.setRow g (ccells (L.take i) ++ (ccells V ++ (ccells (L.drop i) ++ R'))).toArray) base (.slice (some ⟨g, 0, none⟩) n c) (.slice (some ⟨g, 0, none⟩) (n + m) c) (L.take i ++ V ++ L.drop i)) := Lib.hid fun W hW q1 q2 q3 => by
    have hbl : Blk W g 45 (splice cur (i * 3 + m * 3) (ccells (L.drop i))).toArray := by unfold Blk; rw [hW]; exact hB1
    have hll : (L.take i ++ V ++ L.drop i).length = n + m := by simp [hln, hm]; omega
    refine ⟨?_, ?_, .inl rfl⟩
    · rw [hll]
      refine no_of (R := R') hbg ?_ hll hroom hcm (by rw [hR', hRl]; omega)
      rw [ccells_more, ccells_more, List.append_assoc, List.append_assoc]
      exact blk_setRow hbl _
    · have hg2 : w.grownBy W (some g) := ⟨q1.trans hG1.os, q2.trans hG1.tape, q3.trans hG1.output, by rw [hW]; exact hG1.size, fun k h1 h2 => by rw [hW]; exact hG1.block k h1 h2⟩
      exact hg2.trans (grownBy_setRow _ _ _)
  have hov : ∀ lb cb, (callFunc 77 #[.slice (some ⟨vb, 0, none⟩) m vc, .slice (some ⟨g, (i + m) * 3, none⟩) lb cb]).run Try.prog w = .ok (.value (.bool false)) w := fun lb cb => by
    have hsa : w.shape? vb = some (45, (ccells V).toArray.size) := by simp [World.shape?, show w.heap[vb]? = _ from hV]
    have hsb : w.shape? g = some (45, cur.toArray.size) := by simp [World.shape?, show w.heap[g]? = _ from hB]
    rw [run_callFunc_extern Try.func77 (by kernel_rfl) (by kernel_rfl) (by kernel_rfl) (e := Extern.SlicesOverlaps.overlaps #[22, 22] #[4]) (by kernel_rfl),
      Lib.run_overlaps_apart w 22 4 45 Try.underlying22 3 (by
        obtain ⟨ti, hi0, hz0, hz1, hz2⟩ := info_parts infoN
        intro w
        simp [sizeOf, typeInfo, hi0, hz1]) ⟨vb, 0, none⟩ ⟨g, (i + m) * 3, none⟩ m vc lb cb hne 45 45 _ _ hsa hsb (by simp [hcl]; omega) (hV.frozen _) (hV.frozen _)]
    rfl
  have hz1 : ¬ ((m : Int) = 0) := by omega
  have hz2 : ¬ ((i : Int) = (n : Int)) := by omega
  have hw1 : IntKind.i64.wrap ((i : Int) + (m : Int)) = (i : Int) + (m : Int) := by rw [IntKind.wrap_i64]; omega
  have hb1 : (0 : Int) ≤ (i : Int) + (m : Int) := by omega
  have hin : i ≤ n := by omega
  have htn : ((i : Int) + (m : Int)).toNat = i + m := by omega
  have hb2 : ¬ (c = i + m) := by omega
  have hb3 : (i : Int) ≤ (n : Int) + (m : Int) := by omega
  have hb4 : ¬ (c = i) := by omega
  have mixed : Try.prog.follows Departure.mixedOrders = true := by kernel_rfl
  clear ho hvb hV1 hB1 hB hV hG1 hW1 hsp hcur hcur2 hsrc hX hY hVl hl1 hcl hRl hR hR' hmm
  go_enter Try.func76, Try.ntmps76
  go_wp2_with (simp only [hov])
  go_region_law_o (refine step_copy_run' rfl _ _ 22 22 rfl _ _ (by simp [Act.eval, Act.put]) (by simp [Act.eval, Act.put]) (hcp1 _ _ _) ?_)
  go_wp2_with (at_builtin; refine wpList_copy_run' _ rfl _ _ 22 22 rfl _ _ rfl rfl (hcp2 _ rfl _ _) ?_)
  go_ret
  exact ⟨_, rfl, HF.out _ rfl rfl rfl rfl⟩
end Go.Proofs.Ytbecambkjmheiaa
