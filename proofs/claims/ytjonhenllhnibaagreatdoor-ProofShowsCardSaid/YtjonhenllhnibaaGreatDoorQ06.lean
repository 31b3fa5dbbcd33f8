/- Texts of this seat, one behind the other: HLaw, HRot, HFac, HPrime, HMul, HRoot. -/
import Derived.RangeFuncBox
import Derived.RangeFuncNested
import Derived.RangeFuncBound
import Derived.RangeFuncCalls
import Derived.RangeFuncLeaves
import Derived.Shelf.Abstract
import Derived.Shelf.RegionOpen
import Derived.OwnWalkIn
import Derived.TacticsInMore
import Derived.LoopNIn
import Derived.LoopIn
import Derived.Maps.AppendAt
import Derived.Laws.Bits64b
import Derived.Laws.MakeOwn
import Derived.Lib.Mul64
import Derived.Test.YtjonhenllhnibaaGreatDoorQ03
/- A loop over a function that hands pairs on and that, between two rounds, writes cells of its own: what the loop owes. -/
namespace Go.Proofs.YtjonhenllhnibaaGreatDoor
open Go.RowKit Go.Shelf

/-- A turned block that is none of the body's: from B on, and either no cells, or the cells of ends. -/
def RowC (B : Nat) (W : World) (row : Option Nat) : Prop :=
  ∀ r, row = some r → B ≤ r ∧ ((∃ o, W.heap[r]? = some o ∧ o.isCells = false) ∨ ∃ c fr, W.heap[r]? = some (Obj.cells c 79 fr))
def KeptC {β : Type} (B : Nat) (J : β → World → Prop) : Prop := ∀ s W W' row, J s W → W.grownBy W' row → RowC B W row → J s W'
/-- What the handing function itself may turn: cells of ends, from B on. -/
def RowI (B : Nat) (W : World) (row : Option Nat) : Prop := ∀ r, row = some r → B ≤ r ∧ ∃ c fr, W.heap[r]? = some (Obj.cells c 79 fr)
def AbC {β : Type} (B : Nat) (J : β → World → Prop) : Prop := ∀ s W W' row, J s W → W.grownBy W' row → RowI B W row → J s W'
/-- What a round that goes on keeps: all below n₀, and all cells of words, and of ints. -/
def KpC (n₀ : Nat) (W W' : World) : Prop := Below n₀ W W' ∧ ∀ (k : Nat) (c : Array Value) (t : TypeId) (fr : Nat × Nat), (t = 79 ∨ t = 3) → W.heap[k]? = some (Obj.cells c t fr) → W'.heap[k]? = some (Obj.cells c t fr)
theorem KpC.trans {n₀ : Nat} {A B C : World} (h : KpC n₀ A B) (k : KpC n₀ B C) : KpC n₀ A C := ⟨h.1.trans k.1, fun i c t fr ht hi => k.2 i c t fr ht (h.2 i c t fr ht hi)⟩
theorem KpC.of_below {n₀ : Nat} {A B : World} (h : Below A.heap.size A B) (hn : n₀ ≤ A.heap.size) : KpC n₀ A B :=
  ⟨h.mono hn, fun k _ _ _ _ hk => (h.block k (Array.getElem?_eq_some_iff.1 hk).1).trans hk⟩
theorem KpC.putObj {n₀ l : Nat} {W : World} {o o' : Obj} (hn : n₀ ≤ l) (hl : W.heap[l]? = some o) (ho : o.isCells = false) : KpC n₀ W (W.putObj l o') := by
  refine ⟨(Below.refl n₀ W).grown (grownBy_putObj' W l o') (by have := (Array.getElem?_eq_some_iff.1 hl).1; omega) (fun k e => by cases e; exact hn), fun k c t fr _ hk => ?_⟩
  have hne : k ≠ l := fun e => by subst e; rw [hk] at hl; cases hl; cases ho
  exact (World.putObj_heap_other hne).trans hk

/-- What is asked of the function that hands the ends on. -/
def HandsC (n gf : Nat) (lb : Array Value) (n₀ : Nat) (zs : List (Nat × Nat)) (w : World) : Prop :=
  ∀ (l : Nat) (J Jx : List (Nat × Nat) → World → Prop) (W : World), Below w.heap.size w W → AbC W.heap.size J → AbC W.heap.size Jx →
    (∀ pre x W1, J pre W1 → (pre ++ [x]) <+: zs → YieldAt Fence.wide (n - 1) Tryz.prog l #[.int .i64 (x.1 : Int), .int .u32 (x.2 : Int)] W1 fun e W' =>
      (e = .returned (.bool true) ∧ J (pre ++ [x]) W' ∧ KpC n₀ W1 W') ∨ (e = .returned (.bool false) ∧ Jx (pre ++ [x]) W')) → J [] W →
    CallsIn Fence.wide n Tryz.prog gf (#[.func (.yield l) #[] #[]] ++ lb) W fun e W' => (∃ v, e = .returned v) ∧ (J zs W' ∨ ∃ pre, pre <+: zs ∧ Jx pre W')

/-- How a round may be left. -/
def LeftC (B n₀ : Nat) (I : List (Nat × Nat) → World → Prop) (Ix : Code → List (Nat × Nat) → World → Prop) (xs : List (Nat × Nat)) (W : World) : Exit → Act → World → Prop
  | .normal, _, W' => KeepsFrom B W W' ∧ KpC n₀ W W' ∧ I xs W'
  | .ret, _, W' => KeepsFrom B W W' ∧ Ix .ret xs W'
  | _, _, _ => False

theorem RowC.cells {B : Nat} {W W' : World} {row : Option Nat} {k : Nat} {o : Obj} (h : RowC B W row) (hg : W.grownBy W' row) (hk : W.heap[k]? = some o) (hc : o.isCells = true) (ht : ∀ c fr, o ≠ .cells c 79 fr) : W'.heap[k]? = some o := by
  refine (hg.block k (Array.getElem?_eq_some_iff.1 hk).1 (fun e => ?_)).trans hk
  obtain ⟨_, ⟨o', ho, hn⟩ | ⟨c, fr, ho⟩⟩ := h k e.symm
  · rw [hk] at ho; cases ho; rw [hc] at hn; cases hn
  · rw [hk] at ho; cases ho; exact ht _ _ rfl
theorem RowI.others {B : Nat} {W W' : World} {row : Option Nat} {k : Nat} {o : Obj} (h : RowI B W row) (hg : W.grownBy W' row) (hk : W.heap[k]? = some o) (hc : o.isCells = false) : W'.heap[k]? = some o := by
  refine (hg.block k (Array.getElem?_eq_some_iff.1 hk).1 (fun e => ?_)).trans hk
  obtain ⟨_, c, fr, ho⟩ := h k e.symm
  rw [hk] at ho; cases ho; cases hc
theorem RowI.toC {B B' : Nat} {W : World} {row : Option Nat} (h : RowI B W row) (hb : B' ≤ B) : RowC B' W row := fun r e => ⟨Nat.le_trans hb (h r e).1, .inr (h r e).2⟩
theorem KeptC.alloc {β : Type} {B : Nat} {J : β → World → Prop} (h : KeptC B J) {s : β} {W : World} (o : Obj) (hs : J s W) : J s (W.alloc o) := h s W _ none hs (World.grownBy_alloc W o none) (fun r e => by cases e)
theorem KeptC.putObj {β : Type} {B : Nat} {J : β → World → Prop} (h : KeptC B J) {s : β} {W : World} {l : Nat} {o : Obj} (o' : Obj) (hs : J s W) (hB : B ≤ l) (hl : W.heap[l]? = some o) (ho : o.isCells = false) : J s (W.putObj l o') :=
  h s W _ (some l) hs (grownBy_putObj' W l o') (fun r e => by cases e; exact ⟨hB, .inl ⟨o, hl, ho⟩⟩)

set_option maxHeartbeats 1000000 in
theorem range_cells {n : Nat} {g : Operand} {p p2 : Tmp} {assign body : Code} {Q : Exit → Act → World → Prop} {a : Act} {w w0 : World} (hn : 1 ≤ n) {gf : Nat} {lb : Array Value}
    (hg : a.eval g = .func (.func gf) #[] lb) (eg : ∀ args w, (callFunc gf args).run Tryz.prog w = .ok (.enter gf args) w) {n₀ : Nat} (hn₀ : n₀ ≤ w.heap.size) {zs : List (Nat × Nat)} (hH : HandsC (n - 1) gf lb n₀ zs w0) (hb0 : Below w0.heap.size w0 w)
    (I : List (Nat × Nat) → World → Prop) (Ix : Code → List (Nat × Nat) → World → Prop) (hI : KeptC w.heap.size I) (hIx : ∀ c, KeptC w.heap.size (Ix c)) (h0 : I [] w) (Ax : (Nat × Nat) → Act → World → Prop) (hAx : ∀ x a' W l o o', Ax x a' W → w.heap.size ≤ l → W.heap[l]? = some o → o.isCells = false → Ax x a' (W.putObj l o'))
    (hassign : ∀ (l : Nat) (pre : List (Nat × Nat)) (x : (Nat × Nat)) (W : World) (K : Act → World → Prop), I pre W → (∀ a' W', KeepsFrom w.heap.size W W' → KpC n₀ W W' → I pre W' → Ax x a' W' → K a' W') →
      assign.wpIn (Fence.wide.inRound l) (n - 1 - 1) Tryz.prog (Exit.then K (fun _ _ _ => False)) { tmps := (#[p, p2].zip #[Value.int .i64 (x.1 : Int), Value.int .u32 (x.2 : Int)]).foldl (fun t (p, v) => t.setIfInBounds p v) a.tmps, defers := [] } W)
    (hbody : ∀ (l : Nat) (pre : List (Nat × Nat)) (x : (Nat × Nat)) (a' : Act) (W : World), w.heap.size ≤ l → I pre W → Ax x a' W → (pre ++ [x]) <+: zs → body.wpIn (Fence.wide.inRound l) (n - 1 - 1) Tryz.prog (LeftC w.heap.size n₀ I Ix (pre ++ [x]) W) a' W)
    (hdone : ∀ (D : Nat) (W : World), w.heap.size ≤ D → I zs W → W.heap[D]? = some (.deferred (some [])) → Q .normal { a with defers := { target := .collected D, args := #[] } :: a.defers } W)
    (hstop : ∀ (D : Nat) (c : Code) (pre : List (Nat × Nat)) (W : World), w.heap.size ≤ D → pre <+: zs → Ix c pre W → W.heap[D]? = some (.deferred (some [])) → c.wpIn Fence.wide n Tryz.prog Q { a with defers := { target := .collected D, args := #[] } :: a.defers } W) :
    (Code.rangeFunc g #[p, p2] assign body).wpIn Fence.wide n Tryz.prog Q a w := by
  refine wpIn_rangeFunc fun fn hfn => ?_
  -- the loop's record and the block for deferred calls
  let R : LoopState → Option Code → Loop := fun st pe => { state := st, pending := pe, fn, tmps := a.tmps, params := #[p, p2], assign, body, defers := w.heap.size }
  let V : World := (w.alloc (.deferred (some []))).alloc (.loop (R .ready none))
  have hVl : V.heap[w.heap.size + 1]? = some (.loop (R .ready none)) := by
    have := World.alloc_heap_new (w.alloc (.deferred (some []))) (.loop (R .ready none)); rwa [World.size_alloc] at this
  have hVd : V.heap[w.heap.size]? = some (.deferred (some [])) := (Below.heap_alloc _ _ _ (by simp)).trans (World.alloc_heap_new w _)
  have hVs : V.heap.size = w.heap.size + 2 := by simp [V]
  have hVb : Below w0.heap.size w0 V := hb0.trans ((((Below.refl _ w).alloc (Nat.le_refl _) _).alloc (by simp) _).mono hb0.size)
  refine ⟨w.heap.size + 1, [{ target := .collected w.heap.size, args := #[] }], V, { target := .fn (.func gf) lb, args := #[.func (.yield (w.heap.size + 1)) #[] #[]] }, V, gf,
    #[.func (.yield (w.heap.size + 1)) #[] #[]] ++ lb, V, run_enterLoop_outer _ _ _ _ _, ?_, fun _ _ => trivial, ?_, fun _ => hn, ?_⟩
  · simp only [resolve, hg]
    simp [go_sem]
  · simp [invoke, go_sem, eg]
  refine (hH (w.heap.size + 1)
    (fun pre W => I pre W ∧ W.heap[w.heap.size + 1]? = some (.loop (R .ready none)) ∧ W.heap[w.heap.size]? = some (.deferred (some [])))
    (fun pre W => ∃ c, Ix c pre W ∧ W.heap[w.heap.size + 1]? = some (.loop (R .done (some c))) ∧ W.heap[w.heap.size]? = some (.deferred (some [])))
    V hVb
    (fun s A B row hs hgr hr => ⟨hI s A B row hs.1 hgr (hr.toC (by omega)), hr.others hgr hs.2.1 rfl, hr.others hgr hs.2.2 rfl⟩)
    (fun s A B row ⟨c, h1, h2, h3⟩ hgr hr => ⟨c, hIx c s A B row h1 hgr (hr.toC (by omega)), hr.others hgr h2 rfl, hr.others hgr h3 rfl⟩)
    ?_ ⟨hI.alloc _ (hI.alloc _ h0), hVl, hVd⟩).mono ?_
  · -- one round
    rintro pre x W ⟨hi, hl, hd⟩ hlen
    refine ⟨fn, _, assign, body, run_yield (P := Tryz.prog) (args := #[.int .i64 (x.1 : Int), .int .u32 (x.2 : Int)]) hl rfl, roundIn_of_wpIn hfn (hassign _ pre x W _ hi ?_)⟩
    intro a' U hUk hUp hUi hUa
    have hl1 := hUk.same _ _ (by omega) hl rfl
    have hd1 := hUk.same _ _ (Nat.le_refl _) hd rfl
    have hlt := (Array.getElem?_eq_some_iff.1 hl1).1
    refine ⟨_, run_beginRound hl1 rfl, ?_⟩
    let Z : World := U.putObj (w.heap.size + 1) (.loop (R .busy none))
    have hl2 : Z.heap[w.heap.size + 1]? = some (.loop (R .busy none)) := World.putObj_heap_same hlt
    have hd2 : Z.heap[w.heap.size]? = some (.deferred (some [])) := (World.putObj_heap_other (by omega)).trans hd1
    have hZp : KpC n₀ U Z := KpC.putObj (by omega) hl1 rfl
    refine wpIn_mono (hbody _ pre x a' Z (by omega) (hI.putObj _ hUi (by omega) hl1 rfl) (hAx _ _ _ _ _ _ hUa (by omega) hl1 rfl) hlen) ?_
    intro e a3 W3 hp
    cases e with
    | normal =>
      obtain ⟨hk3, hp3, hi3⟩ := hp
      have hl3 := hk3.same _ _ (by omega) hl2 rfl
      have hd3 := hk3.same _ _ (Nat.le_refl _) hd2 rfl
      exact ⟨_, _, run_endRound none hl3, .inl ⟨rfl, ⟨hI.putObj _ hi3 (by omega) hl3 rfl, World.putObj_heap_same (Array.getElem?_eq_some_iff.1 hl3).1, (World.putObj_heap_other (by omega)).trans hd3⟩,
        hUp.trans (hZp.trans (hp3.trans (KpC.putObj (by omega) hl3 rfl)))⟩⟩
    | ret =>
      obtain ⟨hk3, hi3⟩ := hp
      have hl3 := hk3.same _ _ (by omega) hl2 rfl
      have hd3 := hk3.same _ _ (Nat.le_refl _) hd2 rfl
      exact ⟨_, _, run_endRound (some .ret) hl3, .inr ⟨rfl, .ret, (hIx _).putObj _ hi3 (by omega) hl3 rfl, World.putObj_heap_same (Array.getElem?_eq_some_iff.1 hl3).1, (World.putObj_heap_other (by omega)).trans hd3⟩⟩
    | exit id => exact hp.elim
    | goto t => exact hp.elim
    | panic ch => exact hp.elim
    | outgrown => exact hp.elim
  · -- behind the loop
    rintro e W2 ⟨⟨v, rfl⟩, ⟨hi, hl, hd⟩ | ⟨pre, hp, c, hi, hl, hd⟩⟩
    · exact ⟨none, _, run_endLoop (P := Tryz.prog) hl (by simp [R]), hdone _ _ (Nat.le_refl _) (hI.putObj _ hi (by omega) hl rfl) ((World.putObj_heap_other (by omega)).trans hd)⟩
    · exact ⟨some c, _, run_endLoop (P := Tryz.prog) hl (by simp [R]), hstop _ c pre _ (Nat.le_refl _) hp ((hIx c).putObj _ hi (by omega) hl rfl) ((World.putObj_heap_other (by omega)).trans hd)⟩
end Go.Proofs.YtjonhenllhnibaaGreatDoor
/- The contracts of math/bits.RotateLeft32 and of the code's ror. -/
namespace Go.Proofs.YtjonhenllhnibaaGreatDoor
open Go.RowKit

theorem neg_mask (n : Nat) (h1 : 1 ≤ n) (h2 : n ≤ 31) : bits .and .u64 (IntKind.u64.wrap (-(n : Int))) 31 = ((32 - n : Nat) : Int) := by
  have e : IntKind.u64.wrap (-(n : Int)) = ((18446744073709551616 - n : Nat) : Int) := by rw [IntKind.wrap_u64]; omega
  rw [e]
  have h := bits_and_u64_nat (18446744073709551616 - n) 31 (by omega) (by omega)
  have e2 : (18446744073709551616 - n) &&& 31 = (18446744073709551616 - n) % 32 := Nat.and_two_pow_sub_one_eq_mod _ 5
  rw [e2] at h
  refine h.trans ?_
  omega

set_option maxRecDepth 100000 in
set_option maxHeartbeats 1000000 in
theorem hrot_any (x n : Nat) (w : World) (hx : (x : Int) < 4294967296) (h1 : 1 ≤ n) (h2 : n ≤ 31) :
    Calls Tryz.prog 123 #[.int .u32 (x : Int), .int .i64 (-(n : Int))] w fun e w' => e = .returned (.int .u32 (ror x n : Nat)) ∧ w = w' := by
  have hm := neg_mask n h1 h2
  go_enter Tryz.func123, Tryz.ntmps123
  go_wp2
  go_ret
  refine ⟨?_, rfl⟩
  have e1 : (x : Int) / 2 ^ (32 - (32 - n)) = ((x / 2 ^ n : Nat) : Int) := by rw [show 32 - (32 - n) = n by omega]; simp
  have e2 : (x : Int) * 2 ^ (32 - n) % 4294967296 = ((x * 2 ^ (32 - n) % 4294967296 : Nat) : Int) := by simp
  have e3 : bits .or .u32 ((x : Int) * 2 ^ (32 - n) % 4294967296) ((x : Int) / 2 ^ (32 - (32 - n))) = ((ror x n : Nat) : Int) := by
    rw [e1, e2, u32_or_nat _ _ (Nat.mod_lt _ (by omega)) (Nat.lt_of_le_of_lt (Nat.div_le_self _ _) (by omega)), Nat.or_comm]
    rfl
  rw [← e3]
  rfl

set_option maxRecDepth 100000 in
set_option maxHeartbeats 1000000 in
theorem cror_any (x n : Nat) (w : World) (hx : (x : Int) < 4294967296) (h1 : 1 ≤ n) (h2 : n ≤ 31) :
    Calls Tryz.prog 100 #[.int .u32 (x : Int), .int .i64 (n : Int)] w fun e w' => e = .returned (.int .u32 (ror x n : Nat)) ∧ w = w' := by
  go_enter Tryz.func100, Tryz.ntmps100
  go_wp2_with ((with_reducible refine (hrot_any x n _ hx h1 h2).mono ?_); rintro e w' ⟨rfl, rfl⟩)
  go_ret
  exact ⟨rfl, rfl⟩
/-- The same at a literal, as a quiet call. -/
theorem cror_at (x n : Nat) (k : Int) (w : World) (hx : x < 4294967296) (hk : (n : Int) = k) (h1 : 1 ≤ n) (h2 : n ≤ 31) (m : Nat) :
    Calls Tryz.prog 100 #[.int .u32 (x : Int), .int .i64 k] (w.drewN m) fun e w' => e = .returned (.int .u32 (ror x n : Nat)) ∧ ∃ q, w' = w.drewN q := by
  subst hk
  exact (cror_any x n _ (by omega) h1 h2).mono fun _ _ ⟨he, hm⟩ => ⟨he, m, hm.symm⟩
end Go.Proofs.YtjonhenllhnibaaGreatDoor
/- The contract of hasFactor. -/
namespace Go.Proofs.YtjonhenllhnibaaGreatDoor
open Go.RowKit

/-- Whether one of the numbers, up to the root, divides n. -/
def hasF (n : Nat) : List Nat → Bool
  | [] => false
  | p :: r => if n < p * p then false else if n % p = 0 then true else hasF n r

set_option maxRecDepth 100000 in
set_option maxHeartbeats 2000000 in
theorem hasF_any (n : Nat) (A : Option Addr) (c m : Nat) (L : List Nat) (w : World) (hA : WR w A L) (hl : L.length = m) (h64 : m ≤ 64) (hn : (n : Int) < 4294967296) (hL : ∀ x ∈ L, 2 ≤ x ∧ x < 1000) :
    Calls Tryz.prog 115 #[.int .u32 (n : Int), .slice A m c] w fun e w' => e = .returned (.bool (hasF n L)) ∧ w = w' := by
  have HA := Lib.hid hA
  have HL := Lib.hid hl
  have HX := Lib.hid hL
  clear hA hl hL
  go_enter Tryz.func115, Tryz.ntmps115
  go_wp2_with fail
  go_loop [9] (fun iv => ∃ k : Nat, k ≤ m ∧ iv = .int .i64 k ∧ Hid (hasF n L = hasF n (L.drop k))) (fun i => m - (intOf i).toNat)
  case atStart => exact ⟨0, Nat.zero_le _, rfl, Lib.hid (by simp)⟩
  case round =>
    obtain ⟨k, hk, rfl, HF⟩ := hrel
    by_cases hlt : k < m
    · have hkl : k < L.length := by rw [HL.out]; exact hlt
      obtain ⟨g, off, rfl, c0⟩ := HA.out k hkl
      have hx := HX.out _ (List.getElem_mem hkl)
      rw [wn_get L k hkl] at c0
      have HS : Hid (hasF n (L.drop k) = if n < L[k] * L[k] then false else if n % L[k] = 0 then true else hasF n (L.drop (k + 1))) := Lib.hid (by rw [List.drop_eq_getElem_cons hkl, hasF])
      obtain ⟨x, hx'⟩ : ∃ x, L[k] = x := ⟨_, rfl⟩
      rw [hx'] at c0 hx HS
      obtain ⟨hx1, hx2⟩ := hx
      clear hx' hkl
      have hq : x * x ≤ 999 * 999 := Nat.mul_le_mul (by omega) (by omega)
      obtain ⟨q, hqq⟩ : ∃ q, x * x = q := ⟨_, rfl⟩
      have hw : IntKind.u32.wrap ((x : Int) * (x : Int)) = (q : Int) := by rw [← Int.natCast_mul, hqq, IntKind.wrap_u32]; omega
      rw [hqq] at hq HS
      clear hqq
      have hx3 : (2 : Int) ≤ (x : Int) := by omega
      by_cases h1 : n < q
      · have HE : Hid (hasF n L = false) := Lib.hid (by rw [HF.out, HS.out, if_pos h1])
        go_wp2
        go_ret
        rw [HE.out]
        exact ⟨rfl, rfl⟩
      · by_cases h2 : n % x = 0
        · have HE : Hid (hasF n L = true) := Lib.hid (by rw [HF.out, HS.out, if_neg h1, if_pos h2])
          have h2' : (n : Int) % (x : Int) = 0 := by omega
          have H2 := Lib.hid h2
          clear h2
          go_wp2
          go_ret
          rw [HE.out]
          exact ⟨rfl, rfl⟩
        · have HE : Hid (hasF n L = hasF n (L.drop (k + 1))) := Lib.hid (by rw [HF.out, HS.out, if_neg h1, if_neg h2])
          have h2' : ¬ (n : Int) % (x : Int) = 0 := by omega
          have h2'' : ((n : Int) % (x : Int) == 0) = false := by simpa using h2'
          have H2 := Lib.hid h2
          have H2' := Lib.hid h2'
          clear h2 h2'
          go_wp2
          exact ⟨⟨k + 1, by omega, by go_num, HE⟩, by simp [intOf]; omega⟩
    · obtain rfl : k = m := by omega
      have HE : Hid (hasF n L = false) := Lib.hid (by rw [HF.out, ← HL.out, List.drop_length, hasF])
      go_wp2
      go_ret
      rw [HE.out]
      exact ⟨rfl, rfl⟩
end Go.Proofs.YtjonhenllhnibaaGreatDoor
/- The iterator primes: the first so many primes, each with how many are less. -/
namespace Go.Proofs.YtjonhenllhnibaaGreatDoor
open Go.RowKit Go.Shelf
attribute [local go_sem] Oper.semAt_some

/-- The primes that are less than j + 2. -/
def lessAt : Nat → List Nat
  | 0 => []
  | j + 1 => if hasF (j + 2) (lessAt j) then lessAt j else lessAt j ++ [j + 2]
theorem lessAt_bd (j : Nat) : ∀ x ∈ lessAt j, 2 ≤ x ∧ x < j + 2 := by
  induction j with
  | zero => intro x hx; cases hx
  | succ j ih =>
    intro x hx
    rw [lessAt] at hx
    split at hx
    · have := ih x hx; omega
    · rcases List.mem_append.1 hx with h | h
      · have := ih x h; omega
      · rw [List.mem_singleton.1 h]; omega
theorem lessAt_pre (j d : Nat) : lessAt j <+: lessAt (j + d) := by
  induction d with
  | zero => exact List.prefix_refl _
  | succ d ih =>
    refine ih.trans ?_
    rw [← Nat.add_assoc, lessAt]
    split
    · exact List.prefix_refl _
    · exact List.prefix_append _ _
/-- What the iterator hands on. -/
def pairs (P : List Nat) (k : Nat) : List (Nat × Nat) := (List.range k).map fun i => (i, wn P i)
theorem pairs_succ (P : List Nat) (k : Nat) : pairs P (k + 1) = pairs P k ++ [(k, wn P k)] := by simp [pairs, List.range_succ]
theorem pairs_len (P : List Nat) (k : Nat) : (pairs P k).length = k := by simp [pairs]

theorem pairs_pre (P : List Nat) (k d : Nat) : pairs P k <+: pairs P (k + d) := by
  induction d with
  | zero => exact List.prefix_refl _
  | succ d ih => rw [← Nat.add_assoc, pairs_succ]; exact ih.trans (List.prefix_append _ _)

theorem info25 : (Tryz.prog.info? 79).map (fun i => (i.zero, i.size, i.bytes)) = some (some (.int .u32 0), 1, 4) := by kernel_rfl
theorem makeWords (m : Nat) (hm : m ≤ 64) : ∃ Z : Array Value, Z.size = m ∧ ∀ W : World, (Instr.makeSlice 76 (.int .i64 0) (.int .i64 (m : Int))).run Tryz.prog W = .ok (.slice (some ⟨W.heap.size, 0, none⟩) 0 m) (W.alloc (.cells Z 79)) := by
  obtain ⟨i0, hi, hz0, hz1, hz2⟩ := info_parts info25
  refine ⟨madeCells (Value.int .u32 0).cells (m * 1), by simp [madeCells, Value.cells], fun W => ?_⟩
  have h := run_makeSlice (P := Tryz.prog) W 76 79 i0 (.int .u32 0) Tryz.underlying76 hi hz0 .i64 .i64 0 m (by omega) (by omega) (by rw [hz1]; simp; omega) (by rw [hz2]; omega) (by omega)
  rw [hz1] at h
  simpa using h
theorem kp_own {n₀ : Nat} {W W' : World} {base n : Nat} {v : Value} {xs : List Value} (ho : W.ownsRow base 79 1 v n xs) (h : KpC n₀ W W') : W'.ownsRow base 79 1 v n xs := by
  obtain ⟨h1, h2⟩ := ho
  refine ⟨h1, ?_⟩
  rcases h2 with h2 | ⟨g, cap, cur, hv, hb, hh, r⟩
  · exact .inl h2
  · exact .inr ⟨g, cap, cur, hv, hb, h.2 g cur _ _ (.inl rfl) hh, r⟩
theorem own_WR {W : World} {base g c n : Nat} {L : List Nat} (h : W.ownsRow base 79 1 (.slice (some ⟨g, 0, none⟩) n c) n (L.map wv)) (hl : L.length = n) : WR W (some ⟨g, 0, none⟩) L := fun j hj => ⟨g, 0, rfl, by
  rw [Nat.zero_add, h.cellAt j (by omega), wn_get L j hj]
  simp [hj]⟩
theorem own_rowI {W : World} {base g c n : Nat} {xs : List Value} (h : W.ownsRow base 79 1 (.slice (some ⟨g, 0, none⟩) n c) n xs) (B : Nat) (hB : B ≤ base) : RowI B W (Value.slice (some ⟨g, 0, none⟩) n c).ownBlock := by
  intro r e
  cases e
  rcases h.2 with ⟨hv, _⟩ | ⟨g', cap, cur, hv, hb, hh, _⟩
  · cases hv
  · cases hv
    exact ⟨Nat.le_trans hB hb, _, _, hh⟩

set_option maxRecDepth 100000 in
set_option maxHeartbeats 4000000 in
theorem primes1_in (n : Nat) (hn : 1 ≤ n) (l Bm n₀ m je : Nat) (hm : m ≤ 64) (hje : je ≤ 400) (hend : (lessAt je).length = m) (hbef : ∀ j, j < je → (lessAt j).length < m) (J Jx : List (Nat × Nat) → World → Prop)
    (W : World) (hJ : AbC W.heap.size J)
    (hY : ∀ pre x W1, J pre W1 → (pre ++ [x]) <+: pairs (lessAt je) m → YieldAt Fence.wide (n - 1) Tryz.prog l #[.int .i64 (x.1 : Int), .int .u32 (x.2 : Int)] W1 fun e W' =>
      (e = .returned (.bool true) ∧ J (pre ++ [x]) W' ∧ KpC n₀ W1 W') ∨ (e = .returned (.bool false) ∧ Jx (pre ++ [x]) W'))
    (hBm : Boxed W Bm 3 (.int .i64 (m : Int))) (h0 : J [] W) :
    CallsIn Fence.wide n Tryz.prog 114 #[.func (.yield l) #[] #[], .pointer (some ⟨Bm, 0, none⟩)] W fun e W' => (∃ v, e = .returned v) ∧
      (J (pairs (lessAt je) m) W' ∨ (∃ pre, pre <+: pairs (lessAt je) m ∧ Jx pre W')) := by
  obtain ⟨i0, hi, hz0, hz1, hz2⟩ := info_parts info25
  obtain ⟨Z, hZ, hmk⟩ := makeWords m hm
  have HZ := Lib.hid hZ
  have HEND := Lib.hid hend
  have HBEF := Lib.hid hbef
  have c0 := hBm.cell
  have HBM := Lib.hid hBm
  clear hZ hend hbef hBm
  refine callsIn_of_wp Tryz.func114 rfl trivial ?_ rfl
  simp only [Tryz.ntmps114, List.size_toArray, List.length_cons, List.length_nil, Nat.reduceAdd, Nat.reduceSub, Array.replicate_succ, Array.replicate_zero, List.push_toArray, List.append_toArray, List.nil_append, List.cons_append]
  gi_wp2
  clear c0 hmk
  gi_loopw [3, 4] (fun sv nv wr => ∃ j q k g c : Nat, j ≤ je ∧ nv = .int .u32 (q : Int) ∧ (q : Int) ≤ 402 ∧ Hid (q = j + 2) ∧ Hid ((lessAt j).length = k) ∧ sv = .slice (some ⟨g, 0, none⟩) k c ∧ wr.ownsRow W.heap.size 79 1 (.slice (some ⟨g, 0, none⟩) k c) k ((lessAt j).map wv) ∧ Hid (Boxed wr Bm 3 (.int .i64 (m : Int))) ∧ J (pairs (lessAt je) k) wr ∧ W.heap.size ≤ wr.heap.size)
    (fun _ nv _ => 500 - (intOf nv).toNat)
  case atStart =>
    refine ⟨0, 2, 0, W.heap.size, m, Nat.zero_le _, rfl, by omega, Lib.hid rfl, Lib.hid rfl, rfl, ?_, Lib.hid (HBM.out.alloc _), ?_, by simp⟩
    · exact ⟨rfl, .inr ⟨_, m, Z, rfl, Nat.le_refl _, heap_alloc_new W _, by omega, by unfold maxLen; omega, by rw [HZ.out]; simp, by simp [lessAt]⟩⟩
    · exact hJ _ _ _ none h0 (World.grownBy_alloc _ _ none) (fun r e => by cases e)
  case round =>
    obtain ⟨j, q, k, g, c, hj, rfl, hq, HQ, HL, rfl, hown, HBX, hJs, hz⟩ := hrel
    have hcell := HBX.out.cell
    by_cases hlt : j < je
    · have hk : k < m := by have := HBEF.out j hlt; rw [HL.out] at this; exact this
      have hlb : ∀ x ∈ lessAt j, 2 ≤ x ∧ x < 1000 := fun x hx => by have := lessAt_bd j x hx; omega
      have HF := Lib.hid (hasF_any q (some ⟨g, 0, none⟩) c k (lessAt j) wr (own_WR hown HL.out) HL.out (by omega) (by omega) hlb)
      have hq2 : (q : Int) + 1 ≤ 402 := by have := HQ.out; omega
      have HO := Lib.hid hown
      have HJ := Lib.hid hJs
      clear hlb hown hJs
      by_cases hf : hasF q (lessAt j) = true
      · have HN : Hid (lessAt (j + 1) = lessAt j) := Lib.hid (by rw [lessAt, ← HQ.out, if_pos hf])
        rw [hf] at HF
        clear hf
        gi_wp2_with (refine ⟨trivial, ?_⟩; refine (callsIn_wide.2 HF.out).mono ?_; rintro e w' ⟨rfl, rfl⟩)
        exact ⟨⟨j + 1, q + 1, k, g, c, by omega, by go_num, by omega, Lib.hid (by have := HQ.out; omega), Lib.hid (by rw [HN.out]; exact HL.out), rfl, by rw [HN.out]; exact HO.out, HBX, HJ.out, hz⟩, by simp [intOf]; omega⟩
      · have hf' : hasF q (lessAt j) = false := by simpa using hf
        have hN : lessAt (j + 1) = lessAt j ++ [q] := by rw [lessAt, ← HQ.out, if_neg hf]
        have hP : wn (lessAt je) k = q := by
          obtain ⟨d, hd⟩ : ∃ d, je = j + 1 + d := ⟨je - (j + 1), by omega⟩
          obtain ⟨r, hr⟩ := lessAt_pre (j + 1) d
          rw [hd, ← hr, hN]
          have hl := HL.out
          generalize lessAt j = A at hl
          subst hl
          simp [wn, List.getD]
        have HN := Lib.hid hN
        have HP := Lib.hid hP
        have HY := Lib.hid (pairs_succ (lessAt je) k)
        have HPRE : Hid (pairs (lessAt je) k ++ [(k, q)] <+: pairs (lessAt je) m) := Lib.hid (by
          obtain ⟨d, rfl⟩ : ∃ d, m = k + 1 + d := ⟨m - (k + 1), by omega⟩
          have := pairs_pre (lessAt je) (k + 1) d
          rw [HY.out, HP.out] at this
          exact this)
        rw [hf'] at HF
        obtain ⟨fn, tmps, assign, body, hy, hR⟩ := hY (pairs (lessAt je) k) (k, q) wr HJ.out HPRE.out
        dsimp only at hy
        have HR := Lib.hid hR
        clear hf hf' hN hP hR
        gi_wp2_with (refine ⟨trivial, ?_⟩; refine (callsIn_wide.2 HF.out).mono ?_; rintro e w' ⟨rfl, rfl⟩)
        refine HR.out.mono ?_
        rintro e W3 (⟨rfl, hJ3, hk3⟩ | ⟨rfl, hJx3⟩)
        · have HO3 := Lib.hid (kp_own HO.out hk3)
          have z3 := hk3.1.size
          have hn := cell_one_new W3 (.int .u32 (q : Int)) 79
          have hz3 : W.heap.size ≤ W3.heap.size := by omega
          gi_wp2_with (gi_at_builtin; go_must (refine wpListIn_append_own _ rfl _ _ 76 rfl W.heap.size 79 i0 (.int .u32 0) 1 4 Tryz.underlying76 hi hz0 hz1 hz2 rfl (by decide) _ _ _ rfl (HO3.out.alloc _) ⟨W3.heap.size, 0, none⟩ 1 1 [.int .u32 (q : Int)] rfl rfl hn (by simp [Value.oneCell']) (by unfold maxLen; omega) (by omega) (by simp; omega) ?_); intro v' w4 hown' hgrow _; obtain ⟨g', cap', rfl⟩ := ownsRow_succ hown')
          have HB3 : Boxed (W3.alloc (.cells #[.int .u32 (q : Int)] 79)) Bm 3 (.int .i64 (m : Int)) := Boxed.alloc (hk3.2 Bm _ _ _ (.inr rfl) HBX.out) _
          have hJ4 : J (pairs (lessAt je) (k + 1)) w4 := by
            rw [HY.out, HP.out]
            exact hJ _ _ _ _ (hJ _ _ _ none hJ3 (World.grownBy_alloc _ _ none) (fun r e => by cases e)) hgrow (own_rowI (HO3.out.alloc _) _ (Nat.le_refl _))
          have hs4 := hgrow.size
          rw [World.size_alloc] at hs4
          refine ⟨⟨j + 1, q + 1, k + 1, g', cap', by omega, by go_num, by omega, Lib.hid (by have := HQ.out; omega), Lib.hid (by rw [HN.out, List.length_append, HL.out]; rfl), rfl, by rw [HN.out, List.map_append]; exact hown', Lib.hid (HB3.kept hgrow (HB3.not_row (by decide) (HO3.out.alloc _))), hJ4, by omega⟩, by simp [intOf]; omega⟩
        · gi_wp2
          refine bodyPost_ret (results_none rfl _ _ _) rfl ?_
          exact ⟨⟨_, rfl⟩, .inr ⟨_, HPRE.out, hJx3⟩⟩
    · have hje' : j = je := by omega
      have hkm : k = m := by rw [← HL.out, hje', HEND.out]
      have HJ := Lib.hid hJs
      have hown2 := Lib.hid hown
      clear hje' hown hJs
      subst hkm
      gi_wp2
      go_end0
      exact ⟨⟨_, rfl⟩, .inl HJ.out⟩

theorem primes_hands (n : Nat) (hn : 1 ≤ n) (Bm n₀ m je : Nat) (hm : m ≤ 64) (hje : je ≤ 400) (hend : (lessAt je).length = m) (hbef : ∀ j, j < je → (lessAt j).length < m) (w : World) (hBm : Boxed w Bm 3 (.int .i64 (m : Int))) :
    HandsC n 114 #[.pointer (some ⟨Bm, 0, none⟩)] n₀ (pairs (lessAt je) m) w := fun l J Jx W hW hJ _ hY h0 =>
  primes1_in n hn l Bm n₀ m je hm hje hend hbef J Jx W hJ hY ((hW.block Bm hBm.lt).trans hBm) h0

set_option maxHeartbeats 1000000 in
theorem primes_any (m : Nat) (w : World) :
    Calls Tryz.prog 91 #[.int .i64 (m : Int)] w fun e w' => e = .returned (.func (.func 114) #[] #[.pointer (some ⟨w.heap.size, 0, none⟩)]) ∧ w' = w.alloc (.cells #[.int .i64 (m : Int)] 3) := by
  go_enter Tryz.func91, Tryz.ntmps91
  go_wp2
  go_ret
  exact ⟨rfl, rfl⟩
end Go.Proofs.YtjonhenllhnibaaGreatDoor
/- The contracts of math/bits.Mul64, and of the two tests whether a number is less than a root times 2^32. -/
namespace Go.Proofs.YtjonhenllhnibaaGreatDoor
open Go.RowKit

theorem maskN (a : Nat) (ha : a < 18446744073709551616) : bits .and .u64 (a : Int) 4294967295 = ((a % 4294967296 : Nat) : Int) := by
  have h := bits_and_u64_nat a 4294967295 ha (by omega)
  rw [show a &&& 4294967295 = a % 4294967296 from Nat.and_two_pow_sub_one_eq_mod a 32] at h
  exact h
theorem divN (a : Nat) : (a : Int) / 4294967296 = ((a / 4294967296 : Nat) : Int) := by omega
theorem wrapN (a : Nat) (ha : a < 18446744073709551616) : IntKind.u64.wrap (a : Int) = (a : Int) := by rw [IntKind.wrap_u64]; omega
theorem wrapM (a : Nat) : IntKind.u64.wrap (a : Int) = ((a % 18446744073709551616 : Nat) : Int) := by rw [IntKind.wrap_u64]; omega

set_option maxRecDepth 100000 in
set_option maxHeartbeats 1000000 in
theorem hmul_any (x y : Nat) (hx : x < 18446744073709551616) (hy : y < 18446744073709551616) (w : World) :
    Calls Tryz.prog 118 #[.int .u64 (x : Int), .int .u64 (y : Int)] w fun e w' => e = .returned (.tuple #[.int .u64 ((x * y / 18446744073709551616 : Nat) : Int), .int .u64 ((x * y % 18446744073709551616 : Nat) : Int)]) ∧ w = w' := by
  obtain ⟨bd, bt, bw, hhi⟩ := Lib.mul64_hi x y hx hy
  have ba := Lib.half_mul_le (a := x / 4294967296) (b := y / 4294967296) (by omega) (by omega)
  have bb := Lib.half_mul_le (a := x / 4294967296) (b := y % 4294967296) (by omega) (by omega)
  have bc := Lib.half_mul_le (a := x % 4294967296) (b := y / 4294967296) (by omega) (by omega)
  have ba' : x / 4294967296 * (y / 4294967296) < 18446744073709551616 := by omega
  have bb' : x / 4294967296 * (y % 4294967296) < 18446744073709551616 := by omega
  have bc' : x % 4294967296 * (y / 4294967296) < 18446744073709551616 := by omega
  have bh1 : x / 4294967296 * (y / 4294967296) + (x / 4294967296 * (y % 4294967296) + x % 4294967296 * (y % 4294967296) / 4294967296) / 4294967296 < 18446744073709551616 := by omega
  have bh : x / 4294967296 * (y / 4294967296) + (x / 4294967296 * (y % 4294967296) + x % 4294967296 * (y % 4294967296) / 4294967296) / 4294967296 + ((x / 4294967296 * (y % 4294967296) + x % 4294967296 * (y % 4294967296) / 4294967296) % 4294967296 + x % 4294967296 * (y / 4294967296)) / 4294967296 < 18446744073709551616 := by omega
  go_enter Tryz.func118, Tryz.ntmps118
  go_wp2
  simp only [maskN x hx, maskN y hy, divN, ← Int.natCast_mul, ← Int.natCast_add, wrapN _ bd, wrapN _ bb', wrapN _ bt, maskN _ bt, wrapN _ bc', wrapN _ bw, wrapN _ ba', wrapN _ bh1, wrapN _ bh, wrapM (x * y)]
  rw [hhi]
  go_ret2
  exact ⟨rfl, rfl⟩

/-- Whether a number is less than a square root times 2^32. -/
def lessS (p r : Nat) : Bool := decide (r * r / 18446744073709551616 < p)
/-- .. and than a cube root. -/
def lessC (p r : Nat) : Bool := decide (r * r / 18446744073709551616 * r + r * r % 18446744073709551616 * r / 18446744073709551616 < p * 4294967296)

theorem dec_cast (a b : Nat) : decide ((a : Int) < (b : Int)) = decide (a < b) := by simp
theorem mul_at (x y Q R : Nat) (hx : x < 18446744073709551616) (hy : y < 18446744073709551616) (hQ : x * y / 18446744073709551616 = Q) (hR : x * y % 18446744073709551616 = R) (w : World) :
    Calls Tryz.prog 118 #[.int .u64 (x : Int), .int .u64 (y : Int)] w fun e w' => e = .returned (.tuple #[.int .u64 (Q : Int), .int .u64 (R : Int)]) ∧ w = w' := by
  subst hQ hR
  exact hmul_any x y hx hy w

set_option maxRecDepth 100000 in
set_option maxHeartbeats 1000000 in
theorem lessS_any (p r : Nat) (hp : (p : Int) < 4294967296) (hr : r < 34359738368) (b : Nat) (w : World) (hc : w.cell? ⟨b, 0, none⟩ = some (.int .u32 (p : Int))) :
    Calls Tryz.prog 119 #[.int .u64 (r : Int), .pointer (some ⟨b, 0, none⟩)] w fun e w' => e = .returned (.bool (lessS p r)) ∧ w = w' := by
  obtain ⟨Q, hQ⟩ : ∃ Q, r * r / 18446744073709551616 = Q := ⟨_, rfl⟩
  obtain ⟨R, hR⟩ : ∃ R, r * r % 18446744073709551616 = R := ⟨_, rfl⟩
  have HL : Hid (lessS p r = decide (Q < p)) := Lib.hid (by rw [lessS, hQ])
  have HM := Lib.hid (mul_at r r Q R (by omega) (by omega) hQ hR w)
  clear hQ hR
  go_enter Tryz.func119, Tryz.ntmps119
  go_wp2_with ((with_reducible refine HM.out.mono ?_); rintro e w' ⟨rfl, rfl⟩)
  go_ret
  rw [HL.out]
  exact ⟨rfl, rfl⟩

set_option maxRecDepth 100000 in
set_option maxHeartbeats 1000000 in
theorem lessC_any (p r : Nat) (hp : (p : Int) < 4294967296) (hr : r < 34359738368) (b : Nat) (w : World) (hc : w.cell? ⟨b, 0, none⟩ = some (.int .u32 (p : Int))) :
    Calls Tryz.prog 117 #[.int .u64 (r : Int), .pointer (some ⟨b, 0, none⟩)] w fun e w' => e = .returned (.bool (lessC p r)) ∧ w = w' := by
  have h1 : r * r ≤ 34359738367 * 34359738367 := Nat.mul_le_mul (by omega) (by omega)
  have h2 : r * r / 18446744073709551616 ≤ 64 := by omega
  have h3 : r * r / 18446744073709551616 * r ≤ 64 * 34359738367 := Nat.mul_le_mul h2 (by omega)
  have h4 : r * r % 18446744073709551616 < 18446744073709551616 := Nat.mod_lt _ (by omega)
  have h5 : r * r % 18446744073709551616 * r ≤ 18446744073709551615 * 34359738367 := Nat.mul_le_mul (by omega) (by omega)
  have h6 : r * r % 18446744073709551616 * r / 18446744073709551616 ≤ 34359738367 := by omega
  obtain ⟨Q, hQ⟩ : ∃ Q, r * r / 18446744073709551616 = Q := ⟨_, rfl⟩
  obtain ⟨R, hR⟩ : ∃ R, r * r % 18446744073709551616 = R := ⟨_, rfl⟩
  rw [hQ] at h2 h3
  rw [hR] at h4 h5 h6
  obtain ⟨S, hS⟩ : ∃ S, R * r / 18446744073709551616 = S := ⟨_, rfl⟩
  obtain ⟨T, hT⟩ : ∃ T, R * r % 18446744073709551616 = T := ⟨_, rfl⟩
  obtain ⟨U, hU⟩ : ∃ U, Q * r = U := ⟨_, rfl⟩
  rw [hS] at h6
  rw [hU] at h3
  have HL : Hid (lessC p r = decide ((U : Int) + (S : Int) < (p : Int) * 4294967296)) := Lib.hid (by
    rw [lessC, hQ, hR, hS, hU]
    have e : (U : Int) + (S : Int) < (p : Int) * 4294967296 ↔ U + S < p * 4294967296 := by omega
    simp only [e])
  have HM := Lib.hid (mul_at r r Q R (by omega) (by omega) hQ hR w)
  have HM2 := Lib.hid (mul_at R r S T (by omega) (by omega) hS hT w)
  have hW : IntKind.u64.wrap ((Q : Int) * (r : Int)) = (U : Int) := by rw [← Int.natCast_mul, hU]; exact wrapN _ (by omega)
  clear hQ hR hS hT hU h1 h5 h4
  go_enter Tryz.func117, Tryz.ntmps117
  go_wp2_with ((first | (with_reducible refine HM.out.mono ?_) | (with_reducible refine HM2.out.mono ?_)); rintro e w' ⟨rfl, rfl⟩)
  go_ret
  rw [HL.out]
  exact ⟨rfl, rfl⟩
end Go.Proofs.YtjonhenllhnibaaGreatDoor
/- The contracts of the roots: what is behind the point, by trying one bit behind the other. -/
namespace Go.Proofs.YtjonhenllhnibaaGreatDoor
open Go.RowKit

/-- A root so far, by so many of its 35 bits. -/
def rootN (f : Nat → Bool) : Nat → Nat
  | 0 => 0
  | k + 1 => if f (rootN f k ||| 2 ^ (34 - k)) then rootN f k ||| 2 ^ (34 - k) else rootN f k
theorem rootN_lt (f : Nat → Bool) (k : Nat) : rootN f k < 34359738368 := by
  induction k with
  | zero => exact (by decide : (0 : Nat) < 34359738368)
  | succ k ih =>
    have h : 2 ^ (34 - k) < 2 ^ 35 := Nat.pow_lt_pow_right (by omega) (by omega)
    have h2 : rootN f k ||| 2 ^ (34 - k) < 2 ^ 35 := Nat.or_lt_two_pow ih h
    rw [rootN]
    split
    · exact h2
    · exact ih
/-- What is behind the point of the square root of p, times 2^32. -/
def rootS (p : Nat) : Nat := rootN (lessS p) 35 % 4294967296
/-- .. and of the cube root. -/
def rootC (p : Nat) : Nat := rootN (lessC p) 35 % 4294967296
theorem bit_next (k : Nat) : 2 ^ 34 / 2 ^ k / 2 = 2 ^ 34 / 2 ^ (k + 1) := by rw [Nat.div_div_eq_div_mul, ← Nat.pow_succ]
theorem bit_is (k : Nat) (hk : k < 35) : 2 ^ 34 / 2 ^ k = 2 ^ (34 - k) := Nat.pow_div (by omega) (by omega)

set_option maxRecDepth 100000 in
set_option maxHeartbeats 2000000 in
theorem behindS_any (p b : Nat) (hp : (p : Int) < 4294967296) (w : World) (hc : w.cell? ⟨b, 0, none⟩ = some (.int .u32 (p : Int))) :
    Calls Tryz.prog 116 #[.func (.func 119) #[] #[.pointer (some ⟨b, 0, none⟩)]] w fun e w' => e = .returned (.int .u32 ((rootS p : Nat) : Int)) ∧ w = w' := by
  have HC := Lib.hid hc
  have HP := Lib.hid hp
  clear hc hp
  go_enter Tryz.func116, Tryz.ntmps116
  go_wp2_with fail
  go_loop [3, 4] (fun rv bv => ∃ k R B : Nat, k ≤ 35 ∧ rv = .int .u64 (R : Int) ∧ bv = .int .u64 (B : Int) ∧ Hid (R = rootN (lessS p) k) ∧ Hid (B = 2 ^ 34 / 2 ^ k)) (fun _ bv => (intOf bv).toNat)
  case atStart => exact ⟨0, 0, 17179869184, by omega, rfl, rfl, Lib.hid rfl, Lib.hid rfl⟩
  case round =>
    obtain ⟨k, R, B, hk, rfl, rfl, HR, HB⟩ := hrel
    by_cases hlt : k < 35
    · have hB : B = 2 ^ (34 - k) := by rw [HB.out, bit_is k hlt]
      have hB0 : 0 < B := by rw [hB]; exact Nat.pow_pos (by omega)
      have hB1 : B < 2 ^ 35 := by rw [hB]; exact Nat.pow_lt_pow_right (by omega) (by omega)
      have hR1 : R < 2 ^ 35 := by rw [HR.out]; exact rootN_lt _ _
      have hor := bits_or_u64_nat R B (by omega) (by omega)
      have hO1 : R ||| B < 2 ^ 35 := Nat.or_lt_two_pow hR1 hB1
      obtain ⟨O, hO⟩ : ∃ O, R ||| B = O := ⟨_, rfl⟩
      rw [hO] at hor hO1
      have hB2 : (B : Int) < 34359738368 := by omega
      have hR2 : (R : Int) < 34359738368 := by omega
      have hO2 : O < 34359738368 := by omega
      have HS : Hid (rootN (lessS p) (k + 1) = if lessS p O then O else R) := Lib.hid (by rw [rootN, ← HR.out, ← hB, hO])
      have HN : Hid (B / 2 = 2 ^ 34 / 2 ^ (k + 1)) := Lib.hid (by rw [HB.out]; exact bit_next k)
      clear hB hO hB1 hR1 hO1
      by_cases hf : lessS p O = true
      · have HF := Lib.hid hf
        have HM := Lib.hid (lessS_any p O HP.out hO2 b w HC.out)
        rw [hf] at HM
        clear hf hO2
        go_wp2_with ((with_reducible refine HM.out.mono ?_); rintro e w' ⟨rfl, rfl⟩)
        exact ⟨⟨k + 1, O, B / 2, by omega, rfl, by go_num, Lib.hid (by rw [HS.out, if_pos HF.out]), HN⟩, by simp [intOf]; omega⟩
      · have hf' : lessS p O = false := by simpa using hf
        have HF := Lib.hid hf
        have HM := Lib.hid (lessS_any p O HP.out hO2 b w HC.out)
        rw [hf'] at HM
        clear hf hf' hO2
        go_wp2_with ((with_reducible refine HM.out.mono ?_); rintro e w' ⟨rfl, rfl⟩)
        exact ⟨⟨k + 1, R, B / 2, by omega, rfl, by go_num, Lib.hid (by rw [HS.out, if_neg HF.out]), HN⟩, by simp [intOf]; omega⟩
    · obtain rfl : k = 35 := by omega
      obtain rfl : B = 0 := HB.out
      have hR1 : R < 2 ^ 35 := by rw [HR.out]; exact rootN_lt _ _
      have HW : Hid (((rootS p : Nat) : Int) = (R : Int) % 4294967296) := Lib.hid (by rw [rootS, ← HR.out]; simp)
      go_wp2
      go_ret
      rw [HW.out]
      exact ⟨rfl, rfl⟩

set_option maxRecDepth 100000 in
set_option maxHeartbeats 1000000 in
theorem sqrt_any (p : Nat) (hp : (p : Int) < 4294967296) (w : World) :
    Calls Tryz.prog 93 #[.int .u32 (p : Int)] w fun e w' => e = .returned (.int .u32 ((rootS p : Nat) : Int)) ∧ Below w.heap.size w w' := by
  go_enter Tryz.func93, Tryz.ntmps93
  go_wp2_with ((refine (behindS_any p _ hp _ (by simp)).mono ?_); rintro e w' ⟨rfl, rfl⟩)
  go_ret
  exact ⟨rfl, ba (Below.refl _ _) _⟩

set_option maxRecDepth 100000 in
set_option maxHeartbeats 2000000 in
theorem behindC_any (p b : Nat) (hp : (p : Int) < 4294967296) (w : World) (hc : w.cell? ⟨b, 0, none⟩ = some (.int .u32 (p : Int))) :
    Calls Tryz.prog 116 #[.func (.func 117) #[] #[.pointer (some ⟨b, 0, none⟩)]] w fun e w' => e = .returned (.int .u32 ((rootC p : Nat) : Int)) ∧ w = w' := by
  have HC := Lib.hid hc
  have HP := Lib.hid hp
  clear hc hp
  go_enter Tryz.func116, Tryz.ntmps116
  go_wp2_with fail
  go_loop [3, 4] (fun rv bv => ∃ k R B : Nat, k ≤ 35 ∧ rv = .int .u64 (R : Int) ∧ bv = .int .u64 (B : Int) ∧ Hid (R = rootN (lessC p) k) ∧ Hid (B = 2 ^ 34 / 2 ^ k)) (fun _ bv => (intOf bv).toNat)
  case atStart => exact ⟨0, 0, 17179869184, by omega, rfl, rfl, Lib.hid rfl, Lib.hid rfl⟩
  case round =>
    obtain ⟨k, R, B, hk, rfl, rfl, HR, HB⟩ := hrel
    by_cases hlt : k < 35
    · have hB : B = 2 ^ (34 - k) := by rw [HB.out, bit_is k hlt]
      have hB0 : 0 < B := by rw [hB]; exact Nat.pow_pos (by omega)
      have hB1 : B < 2 ^ 35 := by rw [hB]; exact Nat.pow_lt_pow_right (by omega) (by omega)
      have hR1 : R < 2 ^ 35 := by rw [HR.out]; exact rootN_lt _ _
      have hor := bits_or_u64_nat R B (by omega) (by omega)
      have hO1 : R ||| B < 2 ^ 35 := Nat.or_lt_two_pow hR1 hB1
      obtain ⟨O, hO⟩ : ∃ O, R ||| B = O := ⟨_, rfl⟩
      rw [hO] at hor hO1
      have hB2 : (B : Int) < 34359738368 := by omega
      have hR2 : (R : Int) < 34359738368 := by omega
      have hO2 : O < 34359738368 := by omega
      have HS : Hid (rootN (lessC p) (k + 1) = if lessC p O then O else R) := Lib.hid (by rw [rootN, ← HR.out, ← hB, hO])
      have HN : Hid (B / 2 = 2 ^ 34 / 2 ^ (k + 1)) := Lib.hid (by rw [HB.out]; exact bit_next k)
      clear hB hO hB1 hR1 hO1
      by_cases hf : lessC p O = true
      · have HF := Lib.hid hf
        have HM := Lib.hid (lessC_any p O HP.out hO2 b w HC.out)
        rw [hf] at HM
        clear hf hO2
        go_wp2_with ((with_reducible refine HM.out.mono ?_); rintro e w' ⟨rfl, rfl⟩)
        exact ⟨⟨k + 1, O, B / 2, by omega, rfl, by go_num, Lib.hid (by rw [HS.out, if_pos HF.out]), HN⟩, by simp [intOf]; omega⟩
      · have hf' : lessC p O = false := by simpa using hf
        have HF := Lib.hid hf
        have HM := Lib.hid (lessC_any p O HP.out hO2 b w HC.out)
        rw [hf'] at HM
        clear hf hf' hO2
        go_wp2_with ((with_reducible refine HM.out.mono ?_); rintro e w' ⟨rfl, rfl⟩)
        exact ⟨⟨k + 1, R, B / 2, by omega, rfl, by go_num, Lib.hid (by rw [HS.out, if_neg HF.out]), HN⟩, by simp [intOf]; omega⟩
    · obtain rfl : k = 35 := by omega
      obtain rfl : B = 0 := HB.out
      have hR1 : R < 2 ^ 35 := by rw [HR.out]; exact rootN_lt _ _
      have HW : Hid (((rootC p : Nat) : Int) = (R : Int) % 4294967296) := Lib.hid (by rw [rootC, ← HR.out]; simp)
      go_wp2
      go_ret
      rw [HW.out]
      exact ⟨rfl, rfl⟩

set_option maxRecDepth 100000 in
set_option maxHeartbeats 1000000 in
theorem cbrt_any (p : Nat) (hp : (p : Int) < 4294967296) (w : World) :
    Calls Tryz.prog 92 #[.int .u32 (p : Int)] w fun e w' => e = .returned (.int .u32 ((rootC p : Nat) : Int)) ∧ Below w.heap.size w w' := by
  go_enter Tryz.func92, Tryz.ntmps92
  go_wp2_with ((refine (behindC_any p _ hp _ (by simp)).mono ?_); rintro e w' ⟨rfl, rfl⟩)
  go_ret
  exact ⟨rfl, ba (Below.refl _ _) _⟩
end Go.Proofs.YtjonhenllhnibaaGreatDoor
