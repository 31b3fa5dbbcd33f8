/- Texts of this seat, one behind the other: NLaw, NMet, NData, NBy. -/
import Derived.Lib.LazyBuf
import Derived.Test.YtbecambkjmheiaaQ07
import Derived.Test.YtbecambkjmheiaaQ10
import Derived.Test.YtbecambkjmheiaaQ12
/- A loop over a function that hands two values on at a time and that owns some blocks, of which it turns none below a line: what the loop owes, what the function owes. Nothing of any function. -/
namespace Go.Proofs.Ytbecambkjmheiaa
open Go.RowKit Go.Shelf

/-- It abides what X's owner does, who turns nothing below a line. -/
def AbN2 {β : Type} (b0 : Nat) (J : β → (Nat → Prop) → World → Prop) : Prop := ∀ s X W W', J s X W → Grow X W W' → Below b0 W W' → J s (Xn X W W') W'
/-- What is asked of the function that hands values on, none of which ends the loop. -/
def HandsN2 {α : Type} (b0 n gf : Nat) (lb : Array Value) (enc enc2 : α → Value) (zs : List α) (X0 : Nat → Prop) (w : World) : Prop :=
  ∀ (l : Nat) (J : List α → (Nat → Prop) → World → Prop) (X : Nat → Prop) (W : World), (∀ k, X0 k → X k ∧ W.heap[k]? = w.heap[k]?) → b0 ≤ W.heap.size → AbN2 b0 J →
    (∀ pre x Y W1, J pre Y W1 → Bd Y W1 → (pre ++ [x]) <+: zs → YieldAt Fence.wide (n - 1) Try.prog l #[enc x, enc2 x] W1 fun e W' =>
      e = .returned (.bool true) ∧ J (pre ++ [x]) Y W' ∧ Keep Y W1 W') → J [] X W → Bd X W →
    CallsIn Fence.wide n Try.prog gf (#[.func (.yield l) #[] #[]] ++ lb) W fun e W' => (∃ v, e = .returned v) ∧ ∃ Y, J zs Y W' ∧ Bd Y W'

/-- How a round is left. -/
def LeftN2 {α : Type} (I : List α → (Nat → Prop) → World → Prop) (xs : List α) (Y : Nat → Prop) (W : World) : Exit → Act → World → Prop
  | .normal, _, W' => I xs Y W' ∧ Keep Y W W'
  | _, _, _ => False

set_option maxHeartbeats 1000000 in
theorem range_n2 {α : Type} {b0 n : Nat} {g : Operand} {p p2 : Tmp} {assign body : Code} {Q : Exit → Act → World → Prop} {a : Act} {w : World} (hn : 1 ≤ n) {gf : Nat} {lb : Array Value}
    (hg : a.eval g = .func (.func gf) #[] lb) (eg : ∀ args w, (callFunc gf args).run Try.prog w = .ok (.enter gf args) w) {enc enc2 : α → Value} {zs : List α} {X0 : Nat → Prop} {w0 : World}
    (hB0 : b0 ≤ w.heap.size) (hH : HandsN2 b0 (n - 1) gf lb enc enc2 zs X0 w0) (hX0 : ∀ k, X0 k → k < w.heap.size ∧ w.heap[k]? = w0.heap[k]?)
    (I : List α → (Nat → Prop) → World → Prop) (hI : AbN2 b0 I) (h0 : I [] X0 w) (Ax : α → Act → World → Prop) (hAx : ∀ x a' W l o o', Ax x a' W → w.heap.size ≤ l → W.heap[l]? = some o → o.isCells = false → Ax x a' (W.putObj l o'))
    (hassign : ∀ (l : Nat) (pre : List α) (x : α) (Y : Nat → Prop) (W : World) (K : Act → World → Prop), I pre Y W → Bd Y W → Y l → Y w.heap.size → (∀ a' W', I pre Y W' → Keep Y W W' → Ax x a' W' → K a' W') →
      assign.wpIn (Fence.wide.inRound l) (n - 1 - 1) Try.prog (Exit.then K (fun _ _ _ => False)) { tmps := (#[p, p2].zip #[enc x, enc2 x]).foldl (fun t (p, v) => t.setIfInBounds p v) a.tmps, defers := [] } W)
    (hbody : ∀ (l : Nat) (pre : List α) (x : α) (a' : Act) (Y : Nat → Prop) (W : World), w.heap.size ≤ l → I pre Y W → Bd Y W → Ax x a' W → (pre ++ [x]) <+: zs → body.wpIn (Fence.wide.inRound l) (n - 1 - 1) Try.prog (LeftN2 I (pre ++ [x]) Y W) a' W)
    (hdone : ∀ (D : Nat) (Y : Nat → Prop) (W : World), w.heap.size ≤ D → I zs Y W → Bd Y W → Y D → W.heap[D]? = some (.deferred (some [])) → Q .normal { a with defers := { target := .collected D, args := #[] } :: a.defers } W) :
    (Code.rangeFunc g #[p, p2] assign body).wpIn Fence.wide n Try.prog Q a w := by
  refine wpIn_rangeFunc fun fn hfn => ?_
  let R : LoopState → Option Code → Loop := fun st pe => { state := st, pending := pe, fn, tmps := a.tmps, params := #[p, p2], assign, body, defers := w.heap.size }
  let V : World := (w.alloc (.deferred (some []))).alloc (.loop (R .ready none))
  have hVl : V.heap[w.heap.size + 1]? = some (.loop (R .ready none)) := by
    have := World.alloc_heap_new (w.alloc (.deferred (some []))) (.loop (R .ready none)); rwa [World.size_alloc] at this
  have hVd : V.heap[w.heap.size]? = some (.deferred (some [])) := (Below.heap_alloc _ _ _ (by simp)).trans (World.alloc_heap_new w _)
  have hVs : V.heap.size = w.heap.size + 2 := by simp [V]
  have hVb : Below w.heap.size w V := ((Below.refl _ w).alloc (Nat.le_refl _) _).alloc (by simp) _
  have hXn : Xn X0 w V = fun k => X0 k ∨ (k = w.heap.size ∨ k = w.heap.size + 1) := by
    funext k
    apply propext
    unfold Xn
    rw [hVs]
    constructor
    · rintro (h | ⟨h1, h2⟩)
      · exact .inl h
      · exact .inr (by omega)
    · rintro (h | h)
      · exact .inl h
      · exact .inr (by omega)
  have hput : ∀ {s : List α} {Y : Nat → Prop} {W : World} {o o' : Obj}, I s (fun k => Y k ∨ (k = w.heap.size ∨ k = w.heap.size + 1)) W → W.heap[w.heap.size + 1]? = some o → I s (fun k => Y k ∨ (k = w.heap.size ∨ k = w.heap.size + 1)) (W.putObj (w.heap.size + 1) o') := by
    intro s Y W o o' hs hl
    have h1 := hI s _ W (W.putObj (w.heap.size + 1) o') hs (Grow.putObj (.inr (.inr rfl)) W o') ((Below.refl b0 W).grown (grownBy_putObj' W (w.heap.size + 1) o') (by have := (Array.getElem?_eq_some_iff.1 hl).1; omega) (fun k e => by cases e; omega))
    rwa [Xn.none World.putObj_size] at h1
  refine ⟨w.heap.size + 1, [{ target := .collected w.heap.size, args := #[] }], V, { target := .fn (.func gf) lb, args := #[.func (.yield (w.heap.size + 1)) #[] #[]] }, V, gf,
    #[.func (.yield (w.heap.size + 1)) #[] #[]] ++ lb, V, run_enterLoop_outer _ _ _ _ _, ?_, fun _ _ => trivial, ?_, fun _ => hn, ?_⟩
  · simp only [resolve, hg]
    simp [go_sem]
  · simp [invoke, go_sem, eg]
  refine (hH (w.heap.size + 1)
    (fun pre X W => I pre (fun k => X k ∨ (k = w.heap.size ∨ k = w.heap.size + 1)) W ∧ W.heap[w.heap.size + 1]? = some (.loop (R .ready none)) ∧ W.heap[w.heap.size]? = some (.deferred (some [])) ∧ ¬ X w.heap.size ∧ ¬ X (w.heap.size + 1))
    X0 V (fun k hk => ⟨hk, (hVb.block k (hX0 k hk).1).trans (hX0 k hk).2⟩) (by omega) ?_ ?_
    ⟨by rw [← hXn]; exact hI _ _ _ _ h0 (Grow.of_below hVb _) (hVb.mono hB0), hVl, hVd, fun h => by have := (hX0 _ h).1; omega, fun h => by have := (hX0 _ h).1; omega⟩ (fun k hk => by have := (hX0 k hk).1; omega)).mono ?_
  · -- what the function's own doings leave
    rintro s X W W' ⟨h1, h2, h3, h4, h5⟩ hg' hb'
    have l2 := (Array.getElem?_eq_some_iff.1 h2).1
    have l3 := (Array.getElem?_eq_some_iff.1 h3).1
    refine ⟨?_, (hg'.block _ l2 h5).trans h2, (hg'.block _ l3 h4).trans h3, ?_, ?_⟩
    · have := hI s _ W W' h1 (hg'.wide (fun k hk => .inl hk)) hb'
      rwa [Xn.add (X := X) (fun k => k = w.heap.size ∨ k = w.heap.size + 1)] at this
    · rintro (h | ⟨h, _⟩)
      · exact h4 h
      · omega
    · rintro (h | ⟨h, _⟩)
      · exact h5 h
      · omega
  · -- one round
    rintro pre x Y W1 ⟨hi, hl, hd, n4, n5⟩ hbd hlen
    have l2 := (Array.getElem?_eq_some_iff.1 hl).1
    have l3 := (Array.getElem?_eq_some_iff.1 hd).1
    have hbd2 : Bd (fun k => Y k ∨ (k = w.heap.size ∨ k = w.heap.size + 1)) W1 := by
      rintro k (hk | rfl | rfl)
      · exact hbd k hk
      · exact l3
      · exact l2
    refine ⟨fn, _, assign, body, run_yield (P := Try.prog) (args := #[enc x, enc2 x]) hl rfl, roundIn_of_wpIn hfn (hassign _ pre x _ W1 _ hi hbd2 (.inr (.inr rfl)) (.inr (.inl rfl)) ?_)⟩
    intro a' U hUi hUk hUa
    have hl1 := (hUk.2 _ (.inr (.inr rfl))).trans hl
    have hd1 := (hUk.2 _ (.inr (.inl rfl))).trans hd
    have hlt := (Array.getElem?_eq_some_iff.1 hl1).1
    refine ⟨_, run_beginRound hl1 rfl, ?_⟩
    let Z : World := U.putObj (w.heap.size + 1) (.loop (R .busy none))
    have hl2 : Z.heap[w.heap.size + 1]? = some (.loop (R .busy none)) := World.putObj_heap_same hlt
    have hd2 : Z.heap[w.heap.size]? = some (.deferred (some [])) := (World.putObj_heap_other (by omega)).trans hd1
    have hZs : Z.heap.size = U.heap.size := World.putObj_size
    have hbdZ : Bd (fun k => Y k ∨ (k = w.heap.size ∨ k = w.heap.size + 1)) Z := fun k hk => by
      have := hbd2 k hk
      have := hUk.1
      omega
    refine wpIn_mono (hbody _ pre x a' _ Z (by omega) (hput hUi hl1) hbdZ (hAx _ _ _ _ _ _ hUa (by omega) hl1 rfl) hlen) ?_
    intro e a3 W3 hp
    cases e with
    | normal =>
      obtain ⟨hi3, hk3⟩ := hp
      have hl3 := (hk3.2 _ (.inr (.inr rfl))).trans hl2
      have hd3 := (hk3.2 _ (.inr (.inl rfl))).trans hd2
      refine ⟨_, _, run_endRound none hl3, rfl, ⟨hput hi3 hl3, World.putObj_heap_same (Array.getElem?_eq_some_iff.1 hl3).1, (World.putObj_heap_other (by omega)).trans hd3, n4, n5⟩, ?_, fun k hk => ?_⟩
      · have h1 := hUk.1
        have h3 := hk3.1
        rw [World.putObj_size]
        omega
      · have hne : k ≠ w.heap.size + 1 := fun e => n5 (e ▸ hk)
        exact (World.putObj_heap_other hne).trans ((hk3.2 k (.inl hk)).trans ((World.putObj_heap_other hne).trans (hUk.2 k (.inl hk))))
    | ret => exact hp.elim
    | exit id => exact hp.elim
    | goto t => exact hp.elim
    | panic ch => exact hp.elim
    | outgrown => exact hp.elim
  · -- behind the loop
    rintro e W2 ⟨⟨v, rfl⟩, Y, ⟨hi, hl, hd, n4, n5⟩, hbd⟩
    have l2 := (Array.getElem?_eq_some_iff.1 hl).1
    have l3 := (Array.getElem?_eq_some_iff.1 hd).1
    refine ⟨none, _, run_endLoop (P := Try.prog) hl (by simp [R]), hdone _ _ _ (Nat.le_refl _) (hput hi hl) (fun k hk => ?_) (.inr (.inl rfl)) ((World.putObj_heap_other (by omega)).trans hd)⟩
    rw [World.putObj_size]
    rcases hk with hk | rfl | rfl
    · exact hbd k hk
    · exact l3
    · exact l2
end Go.Proofs.Ytbecambkjmheiaa
/- met: what it hands on are the blocks that a span meets, and which of their bytes are in it. -/
namespace Go.Proofs.Ytbecambkjmheiaa
open Go.RowKit Go.Shelf
attribute [local go_sem] Oper.semAt_some

/-- How many blocks; where a block's part begins, how long it is. -/
def mK (f n : Nat) : Nat := (f + (n - 1)) / 32 - f / 32 + 1
def m0 (f i : Nat) : Nat := max f (32 * (f / 32 + i))
def mL (f n i : Nat) : Nat := min (f + n) (32 * (f / 32 + i) + 32) - m0 f i
abbrev me1 (f i : Nat) : Value := vu (f / 32 + i)
abbrev me2 (f n i : Nat) : Value := .agg #[vu (m0 f i), vu (mL f n i)]
theorem mK_8 {f n : Nat} (h : n ≤ 224) : mK f n ≤ 8 := by unfold mK; omega
theorem m_last {f n i : Nat} (h : i < mK f n) (hn : 1 ≤ n) : f / 32 + i ≤ (f + (n - 1)) / 32 := by unfold mK at h; omega
theorem m_part {f n i : Nat} (h : i < mK f n) (hn : 1 ≤ n) : m0 f i < min (f + n) (32 * (f / 32 + i) + 32) := by
  have := m_last h hn
  unfold m0
  omega

theorem nmet_any (f n : Nat) (w : World) :
    Calls Try.prog 31 #[.agg #[vu f, vu n]] w fun e w' => e = .returned (.func (.func 50) #[] #[.pointer (some ⟨w.heap.size, 0, none⟩)]) ∧ w' = w.alloc (.cells #[vu f, vu n] 25) := by
  go_enter Try.func31, Try.ntmps31
  go_wp2
  go_ret
  exact ⟨rfl, rfl⟩
/-- What the handing function keeps, and a box of its own. -/
def NVM {α : Type} (b0 : Nat) (J : List α → (Nat → Prop) → World → Prop) (W : World) (X0 : Nat → Prop) (M : Nat) (o : Obj) (pre : List α) (wr : World) : Prop :=
  b0 ≤ wr.heap.size ∧ ∃ Y : Nat → Prop, J pre Y wr ∧ Bd Y wr ∧ (∀ k, X0 k → Y k ∧ wr.heap[k]? = W.heap[k]?) ∧ Y M ∧ wr.heap[M]? = some o
section
variable {α : Type} {b0 : Nat} {J : List α → (Nat → Prop) → World → Prop} {W wr w3 : World} {X0 : Nat → Prop} {M : Nat} {o : Obj} {pre : List α}
theorem NVM.below (h : NVM b0 J W X0 M o pre wr) (hJ : AbN2 b0 J) (hb : Below wr.heap.size wr w3) : NVM b0 J W X0 M o pre w3 := by
  obtain ⟨h0, Y, h1, h2, h3, h4, h5⟩ := h
  exact ⟨Nat.le_trans h0 hb.size, Xn Y wr w3, hJ _ _ _ _ h1 (Grow.of_below hb Y) (hb.mono h0), Xn.bd h2 hb.size, fun k hk => ⟨.inl (h3 k hk).1, (hb.block _ (h2 _ (h3 k hk).1)).trans (h3 k hk).2⟩, .inl h4, (hb.block _ (h2 _ h4)).trans h5⟩
theorem NVM.give (h : NVM b0 J W X0 M o pre wr) : ∃ Y, J pre Y wr ∧ Bd Y wr ∧ ∀ (W4 : World) (q : List α), J q Y W4 → Keep Y wr W4 → NVM b0 J W X0 M o q W4 := by
  obtain ⟨h0, Y, h1, h2, h3, h4, h5⟩ := h
  exact ⟨Y, h1, h2, fun W4 q hq hk => ⟨Nat.le_trans h0 hk.1, Y, hq, fun k hkk => Nat.lt_of_lt_of_le (h2 k hkk) hk.1, fun k hx => ⟨(h3 k hx).1, (hk.2 k (h3 k hx).1).trans (h3 k hx).2⟩, h4, (hk.2 M h4).trans h5⟩⟩
theorem NVM.blk {t : TypeId} {cs : Array Value} (h : NVM b0 J W X0 M (.cells cs t) pre wr) : Blk wr M t cs := by
  obtain ⟨_, _, _, _, _, _, h5⟩ := h
  exact h5
theorem NVM.old {k : Nat} (h : NVM b0 J W X0 M o pre wr) (hk : X0 k) : wr.heap[k]? = W.heap[k]? := by
  obtain ⟨_, _, _, _, h3, _⟩ := h
  exact (h3 k hk).2
end

set_option maxRecDepth 100000 in
set_option maxHeartbeats 4000000 in
theorem nmet_hands (b0 n : Nat) (hn : 1 ≤ n) (B f len : Nat) (w : World) (hB : Blk w B 25 #[vu f, vu len]) (h1 : 1 ≤ len) (h2 : len ≤ 224) (h3 : f + len ≤ 18446744073709551616) :
    HandsN2 b0 n 50 #[.pointer (some ⟨B, 0, none⟩)] (me1 f) (me2 f len) (List.range (mK f len)) (fun k => k = B) w := by
  intro l J X W hX hb0 hJ hY h0 hbd
  have hBW : Blk W B 25 #[vu f, vu len] := (hX B rfl).2.trans hB
  have cB0 : W.cell? ⟨B, 0, none⟩ = some (vu f) := hBW.cell 0
  have cB1 : W.cell? ⟨B, 1, none⟩ = some (vu len) := hBW.cell 1
  have HC : Hid (∀ V, Calls Try.prog 51 #[.agg #[vu f, vu len], .int .u64 32] V fun e w' => e = .returned (.tuple #[.agg #[vu (f / 32), vu (mK f len)], .int .i64 0]) ∧ Below V.heap.size V w') := Lib.hid fun V => by
    have := cover_ok (f : Int) (len : Int) 32 ((f / 32 : Nat) : Int) (((f + (len - 1)) / 32 : Nat) : Int) V (by omega) (by omega) (by omega) (by omega) (by omega) (Lib.hid ⟨by omega, by omega⟩)
    have e : (((f + (len - 1)) / 32 : Nat) : Int) - ((f / 32 : Nat) : Int) + 1 = ((mK f len : Nat) : Int) := by unfold mK; omega
    rw [e] at this
    exact this
  have HT : Hid (∀ V k, k < mK f len → Calls Try.prog 52 #[.agg #[vu f, vu len], .agg #[.int .u64 (((f / 32 + k : Nat) : Int) * 32), .int .u64 32]] V fun e w' => e = .returned (.tuple #[me2 f len k, .int .i64 0]) ∧ Below V.heap.size V w') := Lib.hid fun V k hk => by
    have hl := m_last hk h1
    have hp := m_part hk h1
    have := cut_meet (f : Int) (len : Int) (((f / 32 + k : Nat) : Int) * 32) 32 V (by omega) (by omega) (by omega) (by omega) (by omega) (by omega) (by omega) (by unfold m0 at hp; omega)
    have e1 : max (f : Int) (((f / 32 + k : Nat) : Int) * 32) = ((m0 f k : Nat) : Int) := by unfold m0; omega
    have e2 : min ((f : Int) + ((len : Int) - 1)) (((f / 32 + k : Nat) : Int) * 32 + (32 - 1)) - ((m0 f k : Nat) : Int) + 1 = ((mL f len k : Nat) : Int) := by unfold mL; omega
    rw [e1, e2] at this
    exact this
  have HX0 : Hid (∀ (V : World) (cs : Array Value), Below W.heap.size W V → NVM b0 J W (fun k => k = B) V.heap.size (.cells cs 25) [] (V.alloc (.cells cs 25))) := Lib.hid fun V cs hb => by
    have hb2 := ba hb (.cells cs 25)
    refine ⟨Nat.le_trans hb0 hb2.size, Xn X W _, hJ _ _ _ _ h0 (Grow.of_below hb2 X) (hb2.mono hb0), Xn.bd hbd hb2.size, fun k hk => ⟨.inl (hX k hk).1, hb2.block _ (hbd _ (hX k hk).1)⟩, .inr ⟨hb.size, by simp⟩, heap_alloc_new V _⟩
  have HBB : Hid (∀ M o pre wr, NVM b0 J W (fun k => k = B) M o pre wr → wr.cell? ⟨B, 0, none⟩ = some (vu f) ∧ wr.cell? ⟨B, 1, none⟩ = some (vu len)) := Lib.hid fun M o pre wr h => by
    have h9 : Blk wr B 25 #[vu f, vu len] := (h.old rfl).trans hBW
    exact ⟨h9.cell 0, h9.cell 1⟩
  have HY := Lib.hid hY
  have HJ := Lib.hid hJ
  have HK8 : mK f len ≤ 8 := mK_8 h2
  have HKL : Hid (∀ k, k < mK f len → f / 32 + k ≤ 576460752303423487) := Lib.hid fun k hk => by have := m_last hk h1; omega
  clear hX hJ hY h0 hbd hB hBW
  generalize mK f len = K at *
  obtain ⟨a, ha⟩ : ∃ a, f / 32 = a := ⟨_, rfl⟩
  have HA := Lib.hid ha
  simp only [ha] at HC HKL HT
  simp only [me1, ha] at HY
  refine callsIn_of_wp Try.func50 rfl trivial ?_ rfl
  simp only [Try.ntmps50, List.size_toArray, List.length_cons, List.length_nil, Nat.reduceAdd, Nat.reduceSub, Array.replicate_succ, Array.replicate_zero, List.push_toArray, List.append_toArray, List.nil_append, List.cons_append]
  gi_wp2_with fail
  refine ⟨trivial, ?_⟩
  refine (callsIn_wide.2 (HC.out _)).mono ?_
  rintro e w1 ⟨rfl, hb1⟩
  have HM := Lib.hid (HX0.out w1 #[vu a, vu K] hb1)
  clear hb1
  gi_wp2
  gi_loopw [16] (fun iv wr => ∃ k : Nat, k ≤ K ∧ iv = .int .u64 k ∧ Hid (NVM b0 J W (fun k => k = B) w1.heap.size (.cells #[vu a, vu K] 25) (List.range k) wr)) (fun i _ => K - (intOf i).toNat)
  case atStart => exact ⟨0, Nat.zero_le _, rfl, HM⟩
  case round =>
    obtain ⟨k, hk, rfl, HI⟩ := hrel
    by_cases hlt : k < K
    · have r0 : wr.cell? ⟨w1.heap.size, 0, none⟩ = some (vu a) := HI.out.blk.cell 0
      obtain ⟨q0, q1⟩ := HBB.out _ _ _ _ HI.out
      have hak := HKL.out k hlt
      have hw1 : IntKind.u64.wrap ((a : Int) + (k : Int)) = ((a + k : Nat) : Int) := by rw [IntWalk.u64_in _ ⟨by omega, by omega⟩]; omega
      have hw2 : IntKind.u64.wrap (((a : Int) + (k : Int)) * 32) = ((a + k : Nat) : Int) * 32 := by rw [IntWalk.u64_in _ ⟨by omega, by omega⟩]; omega
      have hw3 : IntKind.u64.wrap ((k : Int) + 1) = ((k + 1 : Nat) : Int) := by rw [IntWalk.u64_in _ ⟨by omega, by omega⟩]; omega
      have HT1 := Lib.hid (fun V => HT.out V k hlt)
      have HP : Hid (List.range k ++ [k] <+: List.range K) := Lib.hid (by
        rw [← List.range_succ]
        obtain ⟨d, rfl⟩ : ∃ d, K = k + 1 + d := ⟨K - (k + 1), by omega⟩
        rw [List.range_add]
        exact List.prefix_append _ _)
      gi_wp2_with fail
      refine ⟨trivial, ?_⟩
      refine (callsIn_wide.2 (HT1.out _)).mono ?_
      rintro e w3 ⟨rfl, hb3⟩
      have HI3 := Lib.hid (HI.out.below HJ.out hb3)
      have HI4 := Lib.hid (HI3.out.below HJ.out (ba (Below.refl _ _) (.cells #[vu (m0 f k), vu (mL f len k)] 25)))
      obtain ⟨Y, y1, y2, y3⟩ := HI4.out.give
      obtain ⟨fn, tmps, assign, body, hy, hR⟩ := HY.out (List.range k) k Y _ y1 y2 HP.out
      have HY3 := Lib.hid y3
      simp only [vu, me2, Int.natCast_add] at hy
      clear hb3 y1 y2 y3 q0 q1
      gi_wp2_with fail
      refine hR.mono ?_
      rintro e W4 ⟨rfl, hJ4, hk4⟩
      have HM4 := Lib.hid (HY3.out W4 _ hJ4 hk4)
      clear hJ4 hk4
      gi_wp2
      go_roundw
      case rel => exact ⟨k + 1, by omega, by go_num, by rw [List.range_succ]; exact HM4⟩
      case measure => simp [intOf]; omega
    · obtain rfl : k = K := by omega
      obtain ⟨_, Y, y1, y2, _⟩ := HI.out
      gi_wp2
      go_end0
      exact ⟨⟨_, rfl⟩, Y, y1, y2⟩
theorem nmet_enters : ∀ args w, (callFunc 50 args).run Try.prog w = .ok (.enter 50 args) w := enters_of Try.func50 (by kernel_rfl) rfl
end Go.Proofs.Ytbecambkjmheiaa
/- The contracts of dataCell and cleared. -/
namespace Go.Proofs.Ytbecambkjmheiaa
open Go.RowKit

theorem nfrozen_of (W : World) (g : Nat) (cs : Array Value) (t : TypeId) (n m : Nat) (h : W.heap[g]? = some (.cells cs t (n, m))) (j : Nat) (hj : j < n) : W.frozen? ⟨g, j, none⟩ = false := by
  simp [World.frozen?, h]
  omega
abbrev ubv (b : UInt8) : Value := .int .u8 (b.toNat : Int)
/-- '[]byte(s)', a text put over a part of it, and back. -/
theorem ndata_mem (l T : List UInt8) (p : Nat) (w : World) (h : p + T.length ≤ l.length) :
    ∃ c wa, (convert 9 56 (sv l)).run Try.prog w = .ok (.slice (some ⟨w.heap.size, 0, none⟩) l.length c) wa ∧ l.length ≤ c ∧ Below w.heap.size w wa ∧ w.heap.size < wa.heap.size ∧
      ∀ W : World, Below wa.heap.size wa W → (∀ ty dc, (Builtin.copy_ #[56, 9] ty #[.slice (some ⟨w.heap.size, p, none⟩) (l.length - p) dc, sv T]).run Try.prog W = .ok (goInt T.length) (W.setCells w.heap.size p (T.map ubv))) ∧
      (convert 56 9 (.slice (some ⟨w.heap.size, 0, none⟩) l.length c)).run Try.prog (W.setCells w.heap.size p (T.map ubv)) = .ok (sv (l.take p ++ T ++ l.drop (p + T.length))) (W.setCells w.heap.size p (T.map ubv)) := by
  have h9 := run_bytes_of_string (P := Try.prog) w 9 56 5 ⟨l.toArray⟩ Try.underlying9 Try.underlying56 Try.underlying5
  rw [size_of] at h9
  obtain ⟨c, hc⟩ : ∃ c, grownCap w l.length 0 5 = c := ⟨_, rfl⟩
  have hcl : l.length ≤ c := by rw [← hc]; exact grownCap_ge _ _ _ _
  rw [hc] at h9
  have hbk := heap_alloc_new w.drew (.cells (bytesRow ⟨l.toArray⟩ c) 5 ((bytesRow ⟨l.toArray⟩ c).size, (bytesRow ⟨l.toArray⟩ c).size + 1))
  refine ⟨c, _, h9, hcl, (Below.refl w.heap.size w).drew.trans (((Below.refl w.heap.size w.drew).alloc (Nat.le_refl _) _)), by simp, fun W hW => ?_⟩
  have hat0 : ∀ j (hj : j < l.length), (w.drew.alloc (.cells (bytesRow ⟨l.toArray⟩ c) 5 ((bytesRow ⟨l.toArray⟩ c).size, (bytesRow ⟨l.toArray⟩ c).size + 1))).cell? ⟨w.heap.size, j, none⟩ = some (ubv l[j]) ∧ (w.drew.alloc (.cells (bytesRow ⟨l.toArray⟩ c) 5 ((bytesRow ⟨l.toArray⟩ c).size, (bytesRow ⟨l.toArray⟩ c).size + 1))).frozen? ⟨w.heap.size, j, none⟩ = false := fun j hj => by
    have hat : (bytesRow ⟨l.toArray⟩ c)[j]? = some (ubv l[j]) := by
      rw [bytesRow_at ⟨l.toArray⟩ c j (by simpa using hj)]
      rfl
    exact ⟨(cell_of_row _ _ _ _ _ _ hbk).trans hat, nfrozen_of _ _ _ _ _ _ hbk j (Array.getElem?_eq_some_iff.1 hat).1⟩
  have hat : ∀ j (hj : j < l.length), At W w.heap.size j (ubv l[j]) := fun j hj => At.later (hat0 j hj) hW
  constructor
  · intro ty dc
    have := run_copy_string (P := Try.prog) W 56 9 ty 5 w.heap.size p (l.length - p) dc ⟨T.toArray⟩ Try.underlying56 (by
      obtain ⟨ti, hi0, hz0, hz1, hz2⟩ := info_parts info5
      intro w
      simp [sizeOf, typeInfo, hi0, hz1]) (by rw [size_of]; omega) (fun j hj => by rw [size_of] at hj; rw [(hat (p + j) (by omega)).1]; rfl) (fun j hj => by rw [size_of] at hj; exact (hat (p + j) (by omega)).2)
    rw [size_of] at this
    exact this
  · have hlen : (l.take p ++ T ++ l.drop (p + T.length)).length = l.length := by simp; omega
    have := run_convert_bytes_back (P := Try.prog) (W.setCells w.heap.size p (T.map ubv)) 56 9 5 ⟨w.heap.size, 0, none⟩ c (l.take p ++ T ++ l.drop (p + T.length)) Try.underlying56 Try.underlying5 Try.underlying9 (fun j hj => by
      have hj' : j < l.length := by rw [hlen] at hj; exact hj
      rw [Addr.add_lit, Nat.zero_add]
      by_cases a1 : j < p
      · rw [World.cell?_setCells_out _ _ _ _ _ (fun _ _ => .inl a1), (hat j hj').1, List.getElem_append_left (by simp; omega), List.getElem_append_left (by simp; omega), List.getElem_take]
      · by_cases a2 : j < p + T.length
        · have h2 := World.cell?_setCells_in w.heap.size (T.map ubv) p W (fun i hi => by rw [List.length_map] at hi; rw [(hat (p + i) (by omega)).1]; rfl) (j - p) (by simp; omega)
          rw [show p + (j - p) = j by omega] at h2
          rw [h2, List.getElem_append_left (by simp; omega), List.getElem_append_right (by simp; omega)]
          have e9 : j - (List.take p l).length = j - p := by rw [List.length_take]; omega
          simp only [List.getElem_map, e9]
        · rw [World.cell?_setCells_out _ _ _ _ _ (fun _ _ => .inr (by simp; omega)), (hat j hj').1, List.getElem_append_right (by simp; omega), List.getElem_drop]
          have e9 : p + T.length + (j - (List.take p l ++ T).length) = j := by rw [List.length_append, List.length_take]; omega
          simp only [e9])
    rw [hlen] at this
    exact this

set_option maxRecDepth 100000 in
set_option maxHeartbeats 4000000 in
theorem ndata_any (c : CL) (i0 il : Nat) (T : List UInt8) (w : World) (hb : (cbytes c).length = 32) (h1 : i0 < 18446744073709551616) (hT : T.length = il) (h2 : i0 % 32 + il ≤ 32) (h3 : 1 ≤ il) :
    Calls Try.prog 19 #[cv c, .agg #[vu i0, vu il], sv T] w fun e w' => e = .returned (cv ⟨c.n, 1, (cbytes c).take (i0 % 32) ++ T ++ (cbytes c).drop (i0 % 32 + il)⟩) ∧ Below w.heap.size w w' := by
  subst hT
  have HB := Lib.hid (fun W => nbytes_any c W)
  have HP := Lib.hid (fun W => nplace_any i0 T.length W h1)
  have HM := Lib.hid (fun W => ndata_mem (cbytes c) T (i0 % 32) W (by omega))
  generalize cbytes c = l at *
  obtain ⟨p, hp⟩ : ∃ p, i0 % 32 = p := ⟨_, rfl⟩
  rw [hp] at HP HM h2 ⊢
  generalize hN : l.take p ++ T ++ l.drop (p + T.length) = N at *
  have HN := Lib.hid hN
  clear hN hp
  have hp32 : p < 32 := by omega
  go_enter Try.func19, Try.ntmps19
  go_wp2_with fail
  refine (HB.out _).mono ?_
  rintro e w1 ⟨rfl, hb1⟩
  have R0 := At.later (v := vu c.n) (b := w.heap.size) (o := 0) ⟨by go_simp, by go_simp⟩ hb1
  have Q0 := At.later (v := vu i0) (b := w.heap.size + 1) (o := 0) ⟨by go_simp, by go_simp⟩ hb1
  have Q1 := At.later (v := vu T.length) (b := w.heap.size + 1) (o := 1) ⟨by go_simp, by go_simp⟩ hb1
  have S0 := At.later (v := .int .u64 0) (b := w.heap.size + 1 + 1) (o := 0) ⟨by go_simp, by go_simp⟩ hb1
  have S1 := At.later (v := .int .i64 0) (b := w.heap.size + 1 + 1) (o := 1) ⟨by go_simp, by go_simp⟩ hb1
  have S2 := At.later (v := .string ⟨#[]⟩) (b := w.heap.size + 1 + 1) (o := 2) ⟨by go_simp, by go_simp⟩ hb1
  have z1 : w.heap.size + 1 + 1 < w1.heap.size := by have := hb1.size; simp at this; omega
  have HB1 := Lib.hid (bt (ba (ba (ba (Below.refl w.heap.size w) _) _) _) hb1)
  clear hb1
  obtain ⟨cap, wa, hcv, hcap, hba, hsz, hmem⟩ := HM.out w1
  rw [hb] at hcv hcap hmem
  have R0a := R0.later hba
  have Q0a := Q0.later hba
  have Q1a := Q1.later hba
  have S0a := S0.later hba
  have S1a := S1.later hba
  have S2a := S2.later hba
  have HBa := Lib.hid (bt HB1.out hba)
  have HMem := Lib.hid hmem
  have q0 := Q0a.1
  have q1 := Q1a.1
  clear hba hmem R0 Q0 Q1 S0 S1 S2
  go_wp2_with fail
  refine (HP.out _).mono ?_
  rintro e w2 ⟨rfl, hb2⟩
  obtain ⟨hcp, hbk⟩ := HMem.out w2 hb2
  obtain ⟨r0, t0⟩ := R0a.later hb2
  obtain ⟨s0, u0⟩ := S0a.later hb2
  obtain ⟨s1, u1⟩ := S1a.later hb2
  obtain ⟨s2, u2⟩ := S2a.later hb2
  have HB2 := Lib.hid (bt HBa.out hb2)
  obtain ⟨W3, hW3⟩ : ∃ W3, W3 = w2.setCells w1.heap.size p (T.map ubv) := ⟨_, rfl⟩
  rw [← hW3] at hcp hbk
  have hne : ∀ k o, k < w1.heap.size → W3.cell? ⟨k, o, none⟩ = w2.cell? ⟨k, o, none⟩ ∧ W3.frozen? ⟨k, o, none⟩ = w2.frozen? ⟨k, o, none⟩ := fun k o hk => by
    rw [hW3]
    exact ⟨World.cell?_setCells_out _ _ _ _ _ (fun h _ => by simp only at h; omega), World.frozen?_setCells _ _ _ _ _⟩
  rw [← (hne _ _ (by omega)).1] at r0 s0 s1 s2
  rw [← (hne _ _ (by omega)).2] at t0 u0 u1 u2
  have HB3 : Hid (Below w.heap.size w W3) := Lib.hid (by rw [hW3]; exact bw HB2.out (by omega) _ _)
  have z3 : w.heap.size + 1 + 1 < W3.heap.size := by rw [hW3, size_setCells]; have := hb2.size; omega
  have hpn : ¬ (cap = p) := by omega
  have hpc : (p : Int) ≤ 32 := by omega
  clear hne hW3 hb2 t0
  go_wp2
  refine bodyPost_ret (v := cv ⟨c.n, 1, N⟩) (by simp [results, Try.results19, go_sem, s0, s1, s2]) rfl ⟨rfl, ?_⟩
  exact bs (bs (bs HB3.out (by omega) _) (by omega) _) (by omega) _
end Go.Proofs.Ytbecambkjmheiaa
/- The contracts of cleared, and of the four changes of one block. -/
namespace Go.Proofs.Ytbecambkjmheiaa
open Go.RowKit

theorem mp_facts {f len k : Nat} (hk : k < mK f len) (h1 : 1 ≤ len) (h3 : f + len ≤ 18446744073709551616) :
    m0 f k < 18446744073709551616 ∧ m0 f k % 32 + mL f len k ≤ 32 ∧ 1 ≤ mL f len k ∧ f ≤ m0 f k ∧ m0 f k - f + mL f len k ≤ len := by
  have hp := m_part hk h1
  have e : m0 f k = max f (32 * (f / 32 + k)) := rfl
  have e2 : mL f len k = min (f + len) (32 * (f / 32 + k) + 32) - m0 f k := rfl
  omega
theorem mp_whole {f len k : Nat} : mL f len k = 32 ↔ cWhole f len (f / 32 + k) := by
  have e : m0 f k = max f (32 * (f / 32 + k)) := rfl
  have e2 : mL f len k = min (f + len) (32 * (f / 32 + k) + 32) - m0 f k := rfl
  unfold cWhole
  omega
/-- What dataCell makes of a part. -/
theorem mp_mix {g : Nat → UInt8} {f len k : Nat} {c : CL} {T : List UInt8} (hc : (cbytes c).length = 32) (hn : c.n = f / 32 + k) (hk : k < mK f len) (h1 : 1 ≤ len) (hT : T.length = mL f len k) (hg : ∀ j, j < mL f len k → T.getD j 0 = g (m0 f k + j - f)) :
    (cbytes c).take (m0 f k % 32) ++ T ++ (cbytes c).drop (m0 f k % 32 + mL f len k) = cmix g f len c :=
  cmix_splice hc (by rw [hn]; rfl) (by rw [hn]; rfl) (by rw [hn]; exact m_part hk h1) hT hg
/-- What cleared makes. -/
def cClear (f len : Nat) (c : CL) : CL := if c.s = 1 then ⟨c.n, 1, cmix (fun _ => 0) f len c⟩ else c

/-- A cell's block and a part's, to be read; a cell's block to be written. -/
abbrev NB3 (a b : Nat) (c : CL) (i0 il : Nat) (w W : World) : Prop :=
  W.cell? ⟨a, 0, none⟩ = some (vu c.n) ∧ W.cell? ⟨a, 1, none⟩ = some (.int .i64 c.s) ∧ W.cell? ⟨a, 2, none⟩ = some (sv c.d) ∧ W.cell? ⟨b, 0, none⟩ = some (vu i0) ∧ W.cell? ⟨b, 1, none⟩ = some (vu il) ∧
  (∃ cs, Blk W (b + 1) 45 cs ∧ cs.size = 3) ∧ Below w.heap.size w W
theorem NB3.later {a b : Nat} {c : CL} {i0 il : Nat} {w W V : World} (h : NB3 a b c i0 il w W) (hb : Below W.heap.size W V) : NB3 a b c i0 il w V := by
  obtain ⟨h0, h1, h2, h3, h4, ⟨cs, h5, h6⟩, h7⟩ := h
  exact ⟨cell_later hb h0, cell_later hb h1, cell_later hb h2, cell_later hb h3, cell_later hb h4, ⟨cs, h5.below hb, h6⟩, bt h7 hb⟩
theorem NB3.drew {a b : Nat} {c : CL} {i0 il : Nat} {w W : World} (h : NB3 a b c i0 il w W) : NB3 a b c i0 il w W.drew := by
  obtain ⟨h0, h1, h2, h3, h4, ⟨cs, h5, h6⟩, h7⟩ := h
  exact ⟨h0, h1, h2, h3, h4, ⟨cs, h5.drew, h6⟩, h7.drew⟩
theorem NB3.res {a b : Nat} {c : CL} {i0 il : Nat} {w W : World} (h : NB3 a b c i0 il w W) :
    ∃ v0 v1 v2, W.cell? ⟨b + 1, 0, none⟩ = some v0 ∧ W.cell? ⟨b + 1, 1, none⟩ = some v1 ∧ W.cell? ⟨b + 1, 2, none⟩ = some v2 ∧ W.frozen? ⟨b + 1, 0, none⟩ = false ∧ W.frozen? ⟨b + 1, 1, none⟩ = false ∧ W.frozen? ⟨b + 1, 2, none⟩ = false := by
  obtain ⟨_, _, _, _, _, ⟨cs, h5, h6⟩, h7⟩ := h
  obtain ⟨l⟩ := cs
  match l, h6 with
  | [x, y, z], _ => exact ⟨x, y, z, h5.cell 0, h5.cell 1, h5.cell 2, h5.frozen 0, h5.frozen 1, h5.frozen 2⟩
theorem NB3.stored {a b : Nat} {c : CL} {i0 il : Nat} {w W : World} (h : NB3 a b c i0 il w W) (ha : a ≠ b + 1) (hw : w.heap.size ≤ b + 1) (v0 v1 v2 : Value) : NB3 a b c i0 il w (((W.setCell ⟨b + 1, 0, none⟩ v0).setCell ⟨b + 1, 1, none⟩ v1).setCell ⟨b + 1, 2, none⟩ v2) := by
  obtain ⟨h0, h1, h2, h3, h4, ⟨cs, h5, h6⟩, h7⟩ := h
  have hc : ∀ (U : World) (k o j : Nat) (v : Value), k ≠ b + 1 → (U.setCell ⟨b + 1, j, none⟩ v).cell? ⟨k, o, none⟩ = U.cell? ⟨k, o, none⟩ := fun U k o j v hk => by
    have := Below.heap_setCell U ⟨b + 1, j, none⟩ v k hk
    simp only [World.cell?, this]
  refine ⟨?_, ?_, ?_, ?_, ?_, ⟨_, ((h5.set_ 0 v0).set_ 1 v1).set_ 2 v2, by simpa using h6⟩, bs (bs (bs h7 hw _) hw _) hw _⟩
  all_goals
    rw [hc _ _ _ _ _ (by omega), hc _ _ _ _ _ (by omega), hc _ _ _ _ _ (by omega)]
    assumption
/-- What is laid in the result's cells. -/
theorem NB3.out {a b : Nat} {c : CL} {i0 il : Nat} {w W : World} (h : NB3 a b c i0 il w W) (hw : w.heap.size ≤ b + 1) (v0 v1 v2 : Value) :
    ((((W.setCell ⟨b + 1, 0, none⟩ v0).setCell ⟨b + 1, 1, none⟩ v1).setCell ⟨b + 1, 2, none⟩ v2).cell? ⟨b + 1, 0, none⟩ = some v0 ∧ (((W.setCell ⟨b + 1, 0, none⟩ v0).setCell ⟨b + 1, 1, none⟩ v1).setCell ⟨b + 1, 2, none⟩ v2).cell? ⟨b + 1, 1, none⟩ = some v1 ∧
      (((W.setCell ⟨b + 1, 0, none⟩ v0).setCell ⟨b + 1, 1, none⟩ v1).setCell ⟨b + 1, 2, none⟩ v2).cell? ⟨b + 1, 2, none⟩ = some v2) ∧ Below w.heap.size w (((W.setCell ⟨b + 1, 0, none⟩ v0).setCell ⟨b + 1, 1, none⟩ v1).setCell ⟨b + 1, 2, none⟩ v2) := by
  obtain ⟨_, _, _, _, _, ⟨cs, h5, h6⟩, h7⟩ := h
  have hB := ((h5.set_ 0 v0).set_ 1 v1).set_ 2 v2
  obtain ⟨l⟩ := cs
  match l, h6 with
  | [x, y, z], _ => exact ⟨⟨hB.cell 0, hB.cell 1, hB.cell 2⟩, bs (bs (bs h7 hw _) hw _) hw _⟩

theorem NB3.start (c : CL) (i0 il : Nat) (w : World) : NB3 w.heap.size (w.heap.size + 1) c i0 il w (((w.alloc (.cells #[vu c.n, .int .i64 c.s, sv c.d] 45)).alloc (.cells #[vu i0, vu il] 25)).alloc (.cells #[.int .u64 0, .int .i64 0, .string ⟨#[]⟩] 45)) := by
  have b0 := ((Blk.new w 45 #[vu c.n, .int .i64 c.s, sv c.d]).alloc (.cells #[vu i0, vu il] 25)).alloc (.cells #[.int .u64 0, .int .i64 0, .string ⟨#[]⟩] 45)
  have b1 := (Blk.newAt (w := w.alloc (.cells #[vu c.n, .int .i64 c.s, sv c.d] 45)) (g := w.heap.size + 1) (by simp) 25 #[vu i0, vu il]).alloc (.cells #[.int .u64 0, .int .i64 0, .string ⟨#[]⟩] 45)
  have b2 := Blk.newAt (w := (w.alloc (.cells #[vu c.n, .int .i64 c.s, sv c.d] 45)).alloc (.cells #[vu i0, vu il] 25)) (g := w.heap.size + 1 + 1) (by simp) 45 #[.int .u64 0, .int .i64 0, .string ⟨#[]⟩]
  exact ⟨b0.cell 0, b0.cell 1, b0.cell 2, b1.cell 0, b1.cell 1, ⟨_, b2, rfl⟩, ba (ba (ba (Below.refl _ _) _) _) _⟩

set_option maxRecDepth 100000 in
set_option maxHeartbeats 4000000 in
theorem ncleared_any (f len k : Nat) (c : CL) (w : World) (hn : c.n = f / 32 + k) (hk : k < mK f len) (h1 : 1 ≤ len) (h3 : f + len ≤ 18446744073709551616) (hc : CIs c) :
    Calls Try.prog 28 #[cv c, me2 f len k] w fun e w' => e = .returned (cv (cClear f len c)) ∧ Below w.heap.size w w' := by
  obtain ⟨p1, p2, p3, _, _⟩ := mp_facts hk h1 h3
  show Calls Try.prog 28 #[cv c, .agg #[vu (m0 f k), vu (mL f len k)]] w _
  by_cases hs : c.s = 1
  · have HZ := Lib.hid (fun W => nzeros_any (mL f len k) W (by omega))
    have HD := Lib.hid (fun W => ndata_any c (m0 f k) (mL f len k) (List.replicate (mL f len k) 0) W (cis_len hc) p1 (by simp) p2 p3)
    have e : cClear f len c = ⟨c.n, 1, (cbytes c).take (m0 f k % 32) ++ List.replicate (mL f len k) 0 ++ (cbytes c).drop (m0 f k % 32 + mL f len k)⟩ := by
      rw [cClear, if_pos hs, mp_mix (g := fun _ => 0) (cis_len hc) hn hk h1 (by simp) (fun j _ => crep_get _ _)]
    rw [e]
    generalize (cbytes c).take (m0 f k % 32) ++ List.replicate (mL f len k) 0 ++ (cbytes c).drop (m0 f k % 32 + mL f len k) = N at *
    generalize List.replicate (mL f len k) (0 : UInt8) = Z at *
    have hil : mL f len k ≤ 32 := by omega
    have hw : IntKind.i64.wrap ((mL f len k : Nat) : Int) = ((mL f len k : Nat) : Int) := by rw [IntKind.wrap_i64]; omega
    generalize mL f len k = il at *
    generalize m0 f k = i0 at *
    obtain ⟨n, s, d⟩ := c
    simp only at hs
    subst hs
    clear e hn hc
    go_enter Try.func28, Try.ntmps28
    go_wp2
    have hS0 := NB3.start ⟨n, 1, d⟩ i0 il w
    generalize ((w.alloc (.cells #[vu n, .int .i64 1, sv d] 45)).alloc (.cells #[vu i0, vu il] 25)).alloc (.cells #[.int .u64 0, .int .i64 0, .string ⟨#[]⟩] 45) = W0 at hS0 ⊢
    go_region_held3 (fun W => NB3 w.heap.size (w.heap.size + 1) ⟨n, 1, d⟩ i0 il w W) (first | exact hS0.drew | assumption | (exact NB3.stored (by assumption) (by omega) (by omega) _ _ _) | go_keep) (first | (go_at_call 48; refine (HZ.out _).mono ?_; rintro e w1 ⟨rfl, hb1⟩; have hS := NB3.later (by assumption) hb1) | (go_at_call 19; refine (HD.out _).mono ?_; rintro e w2 ⟨rfl, hb2⟩; have hS := NB3.later (by assumption) hb2; obtain ⟨_, _, _, r0, r1, r2, s0, s1, s2⟩ := hS.res))
    obtain ⟨⟨o0, o1, o2⟩, hbl⟩ := hS.out (by omega) (.int .u64 (n : Int)) (.int .i64 1) (.string ⟨N.toArray⟩)
    go_wp2
    refine bodyPost_ret (v := cv ⟨n, 1, N⟩) (by simp [results, Try.results28, go_sem, o0, o1, o2]) rfl ⟨rfl, hbl⟩
  · have e : cClear f len c = c := by rw [cClear, if_neg hs]
    rw [e]
    have hs' : (c.s != 1) = true := by simpa using hs
    have hs2 : decide (c.s = 1) = false := by simpa using hs
    clear e hn hc
    go_enter Try.func28, Try.ntmps28
    go_wp2
    refine bodyPost_ret (v := cv c) (by simp [results, Try.results28, go_sem]) rfl ⟨rfl, ?_⟩
    exact ba (ba (ba (Below.refl _ _) _) _) _

/-- What a change of one block has to make. -/
def ByF (w : World) (fn : Nat) (lb : Array Value) (F : CL → CL) (f len : Nat) : Prop :=
  ∀ W, Below w.heap.size w W → ∀ c k, k < mK f len → c.n = f / 32 + k → CIs c → Calls Try.prog fn (#[cv c, me2 f len k] ++ lb) W fun e w' => e = .returned (cv (F c)) ∧ Below W.heap.size W w'

theorem nextract (l : List UInt8) (a b : Nat) : (⟨l.toArray⟩ : ByteArray).extract a b = ⟨((l.take b).drop a).toArray⟩ := by
  simp [ByteArray.extract, ByteArray.copySlice]
  exact List.drop_take.symm
theorem nby_later {a b : Nat} {c : CL} {i0 il bf bd : Nat} {u v : Value} {w W V : World} (h : NB3 a b c i0 il w W ∧ W.cell? ⟨bf, 0, none⟩ = some u ∧ W.cell? ⟨bd, 0, none⟩ = some v) (hb : Below W.heap.size W V) :
    NB3 a b c i0 il w V ∧ V.cell? ⟨bf, 0, none⟩ = some u ∧ V.cell? ⟨bd, 0, none⟩ = some v := ⟨h.1.later hb, cell_later hb h.2.1, cell_later hb h.2.2⟩
theorem nby_stored {a b : Nat} {c : CL} {i0 il bf bd : Nat} {u v : Value} {w W : World} (h : NB3 a b c i0 il w W ∧ W.cell? ⟨bf, 0, none⟩ = some u ∧ W.cell? ⟨bd, 0, none⟩ = some v) (hw : w.heap.size ≤ b + 1) (ha : a ≠ b + 1 ∧ bf ≠ b + 1 ∧ bd ≠ b + 1) (v0 v1 v2 : Value) :
    NB3 a b c i0 il w (((W.setCell ⟨b + 1, 0, none⟩ v0).setCell ⟨b + 1, 1, none⟩ v1).setCell ⟨b + 1, 2, none⟩ v2) ∧ (((W.setCell ⟨b + 1, 0, none⟩ v0).setCell ⟨b + 1, 1, none⟩ v1).setCell ⟨b + 1, 2, none⟩ v2).cell? ⟨bf, 0, none⟩ = some u ∧ (((W.setCell ⟨b + 1, 0, none⟩ v0).setCell ⟨b + 1, 1, none⟩ v1).setCell ⟨b + 1, 2, none⟩ v2).cell? ⟨bd, 0, none⟩ = some v := by
  have hc : ∀ (U : World) (k o j : Nat) (v : Value), k ≠ b + 1 → (U.setCell ⟨b + 1, j, none⟩ v).cell? ⟨k, o, none⟩ = U.cell? ⟨k, o, none⟩ := fun U k o j v hk => by
    have := Below.heap_setCell U ⟨b + 1, j, none⟩ v k hk
    simp only [World.cell?, this]
  obtain ⟨h1, h2, h3⟩ := h
  refine ⟨h1.stored ha.1 hw v0 v1 v2, ?_, ?_⟩
  all_goals
    rw [hc _ _ _ _ _ (by omega), hc _ _ _ _ _ (by omega), hc _ _ _ _ _ (by omega)]
    assumption
set_option maxRecDepth 100000 in
set_option maxHeartbeats 4000000 in
theorem nby_write (bf bd f len : Nat) (data : List UInt8) (w : World) (hf : w.cell? ⟨bf, 0, none⟩ = some (vu f)) (hd : w.cell? ⟨bd, 0, none⟩ = some (sv data)) (hl : data.length = len) (h1 : 1 ≤ len) (h3 : f + len ≤ 18446744073709551616) :
    ByF w 18 #[.pointer (some ⟨bd, 0, none⟩), .pointer (some ⟨bf, 0, none⟩)] (cF 1 (fun j => data.getD j 0) f len) f len := by
  intro W hW c k hk hn hc
  obtain ⟨p1, p2, p3, p4, p5⟩ := mp_facts hk h1 h3
  have hfW := cell_later hW hf
  have hdW := cell_later hW hd
  clear hf hd hW
  have e : cF 1 (fun j => data.getD j 0) f len c = ⟨c.n, 1, (cbytes c).take (m0 f k % 32) ++ (data.drop (m0 f k - f)).take (mL f len k) ++ (cbytes c).drop (m0 f k % 32 + mL f len k)⟩ := by
    rw [cF, if_pos rfl, mp_mix (g := fun j => data.getD j 0) (cis_len hc) hn hk h1 (by simp; omega) (fun j hj => by
      have e1 : m0 f k + j - f = m0 f k - f + j := by omega
      rw [e1, List.getD, List.getD, List.getElem?_take, if_pos hj, List.getElem?_drop])]
  rw [e]
  have HD := Lib.hid (fun V => ndata_any c (m0 f k) (mL f len k) ((data.drop (m0 f k - f)).take (mL f len k)) V (cis_len hc) p1 (by simp; omega) p2 p3)
  have hx1 : (⟨data.toArray⟩ : ByteArray).extract (m0 f k - f) len = ⟨(data.drop (m0 f k - f)).toArray⟩ := by
    rw [nextract, ← hl, List.take_length]
  have hx2 : (⟨(data.drop (m0 f k - f)).toArray⟩ : ByteArray).extract 0 (mL f len k) = ⟨((data.drop (m0 f k - f)).take (mL f len k)).toArray⟩ := by
    rw [nextract, List.drop_zero]
  have hs1 : (⟨data.toArray⟩ : ByteArray).size = len := by rw [size_of, hl]
  have hs2 : (⟨(data.drop (m0 f k - f)).toArray⟩ : ByteArray).size = len - (m0 f k - f) := by rw [size_of, List.length_drop, hl]
  generalize hN : (cbytes c).take (m0 f k % 32) ++ (data.drop (m0 f k - f)).take (mL f len k) ++ (cbytes c).drop (m0 f k % 32 + mL f len k) = N at *
  have hw1 : IntKind.u64.wrap (((m0 f k : Nat) : Int) - (f : Int)) = ((m0 f k - f : Nat) : Int) := by rw [IntWalk.u64_in _ ⟨by omega, by omega⟩]; omega
  show Calls Try.prog 18 #[cv c, .agg #[vu (m0 f k), vu (mL f len k)], .pointer (some ⟨bd, 0, none⟩), .pointer (some ⟨bf, 0, none⟩)] W _
  clear e hc hn hN hk hl
  generalize (data.drop (m0 f k - f)).take (mL f len k) = T at *
  generalize data.drop (m0 f k - f) = D at *
  generalize mL f len k = il at *
  have hpl : m0 f k - f ≤ len := by omega
  obtain ⟨p, hp⟩ : ∃ p, m0 f k - f = p := ⟨_, rfl⟩
  rw [hp] at hx1 hs2 hw1 hpl
  have hq1 : (p : Int) ≤ (len : Int) := by omega
  have hq2 : il ≤ len - p := by omega
  have hq3 : (il : Int) ≤ ((len - p : Nat) : Int) := by omega
  have hq4 : (0 : Int) ≤ (p : Int) := by omega
  clear hp p4 p5
  generalize m0 f k = i0 at *
  have hlW : bf < W.heap.size ∧ bd < W.heap.size := ⟨World.block_lt_of_cell? _ _ hfW, World.block_lt_of_cell? _ _ hdW⟩
  go_enter Try.func18, Try.ntmps18
  go_wp2
  have hS0 := NB3.start c i0 il W
  have hb3 : Below W.heap.size W (((W.alloc (.cells #[vu c.n, .int .i64 c.s, sv c.d] 45)).alloc (.cells #[vu i0, vu il] 25)).alloc (.cells #[.int .u64 0, .int .i64 0, .string ⟨#[]⟩] 45)) := ba (ba (ba (Below.refl _ _) _) _) _
  have f0 := cell_later hb3 hfW
  have d0 := cell_later hb3 hdW
  clear hb3
  generalize ((W.alloc (.cells #[vu c.n, .int .i64 c.s, sv c.d] 45)).alloc (.cells #[vu i0, vu il] 25)).alloc (.cells #[.int .u64 0, .int .i64 0, .string ⟨#[]⟩] 45) = W0 at hS0 f0 d0 ⊢
  go_region_held3 (fun V => NB3 W.heap.size (W.heap.size + 1) c i0 il W V ∧ V.cell? ⟨bf, 0, none⟩ = some (vu f) ∧ V.cell? ⟨bd, 0, none⟩ = some (sv data)) (first | exact ⟨hS0.drew, f0, d0⟩ | assumption | (exact nby_stored (by assumption) (by omega) (by omega) _ _ _) | go_keep) (first | (go_at_call 19; refine (HD.out _).mono ?_; rintro e w2 ⟨rfl, hb2⟩; have hS := nby_later (by assumption) hb2; obtain ⟨_, _, _, r0, r1, r2, s0, s1, s2⟩ := hS.1.res))
  obtain ⟨⟨o0, o1, o2⟩, hbl⟩ := hS.1.out (by omega) (.int .u64 (c.n : Int)) (.int .i64 1) (.string ⟨N.toArray⟩)
  go_wp2
  refine bodyPost_ret (v := cv ⟨c.n, 1, N⟩) (by simp [results, Try.results18, go_sem, o0, o1, o2]) rfl ⟨rfl, hbl⟩
end Go.Proofs.Ytbecambkjmheiaa
