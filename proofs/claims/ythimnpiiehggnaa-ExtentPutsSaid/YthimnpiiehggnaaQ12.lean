/- Texts of this seat, one behind the other: EOpen, EMore, EWith. -/
import Derived.Deep.Strs
import Derived.ChangeSlices
import Derived.BigQuiet
import Derived.Maps.AppendAt
import Derived.Lib.AppendZeros
import Derived.Test.YthimnpiiehggnaaQ02
import Derived.Test.YthimnpiiehggnaaQ04
import Derived.Test.YthimnpiiehggnaaQ09
import Derived.Test.YthimnpiiehggnaaQ11
/- Runs, and a span, that came in as parameters, opened. -/
namespace Go.Proofs.Ythimnpiiehggnaa
open Go.ChangeShapes Go.WideShapes Go.ChangeAt Go.RowKit Go.Joins Go.Deep
theorem cellsRn : Try.prog.cellsOf 47 = 3 := by kernel_rfl
theorem cellsSp : Try.prog.cellsOf 37 = 2 := by kernel_rfl
theorem u64_in {n : Int} (h : (Lit.int .u64 n).wf = true) : 0 ≤ n ∧ n ≤ 18446744073709551615 := by
  obtain ⟨m, rfl, h2⟩ := u64_nat h
  omega

set_option maxRecDepth 100000 in
theorem open_runs_in {H : Type} {enc : TypeId × Value → H} {W : World} {base fuel : Nat} {sp : Nat → Bool} {x : Value} {y : DataW H × List MemPlace}
    (hf : DataW.trod enc Try.prog W base sp true fuel 22 [x] = some y) :
    ∃ (A : Option Addr) (cap : Nat) (L : List Rn), x = .slice A L.length cap ∧ L.length ≤ cap ∧ ER W A L ∧ ∀ x ∈ L, EU x := by
  rcases iopen_slice_fields Try.underlying22 Try.underlying47 (by kernel_rfl) cellsRn hf with ⟨hcs, _⟩ | ⟨a, len, cap, m, D, Pl, hcs, _, hle, hcap, hm, _, hi⟩
  · exact ⟨none, 0, [], by simpa using hcs, Nat.le_refl _, ER.nil _ _, by simp⟩
  · have hml : len ≤ m := by rw [hm]; split <;> omega
    obtain ⟨L, hL, hq⟩ := ilist_of (Q := fun i (q : Rn) => W.cell? (a.add (i * 3)) = some (.int .u64 q.f) ∧ W.cell? (a.add (i * 3 + 1)) = some (.int .u64 q.n) ∧ W.cell? (a.add (i * 3 + 2)) = some (.int .i64 q.s) ∧ EU q) len (fun i hil => by
      obtain ⟨ys, n, _, _, _, hff⟩ := hi i (by omega)
      obtain ⟨u0, y0, c0, _, t0⟩ := hff 0 _ rfl
      obtain ⟨u1, y1, c1, _, t1⟩ := hff 1 _ rfl
      obtain ⟨u2, y2, c2, _, t2⟩ := hff 2 _ rfl
      obtain ⟨x0, e0, _, w0⟩ := DataW.trod_int Try.underlying23 t0
      obtain ⟨x1, e1, _, w1⟩ := DataW.trod_int Try.underlying23 t1
      obtain ⟨x2, e2, _, w2⟩ := DataW.trod_int Try.underlying3 t2
      simp at e0 e1 e2
      subst e0 e1 e2
      have b0 := u64_in w0
      have b1 := u64_in w1
      exact ⟨⟨x0, x1, x2⟩, c0, c1, c2, b0.1, b0.2, b1.1, b1.2⟩)
    refine ⟨some a, cap, L, by rw [hL]; simpa using hcs, by omega, fun j hj => ?_, fun x hx => ?_⟩
    · obtain ⟨q0, q1, q2, _⟩ := hq j hj
      obtain ⟨g, off, s⟩ := a
      have hs : s = none := by
        have := (hq 0 (by omega)).1
        simpa [Addr.add] using World.cell?_spot this
      subst hs
      rw [Go.WideShapes.add_plain] at q0 q1 q2
      rw [← Nat.add_assoc] at q1 q2
      have e : L.getD j default = L[j] := by simp [List.getD, hj]
      rw [e]
      exact ⟨g, off, rfl, q0, q1, q2⟩
    · obtain ⟨j, hj, rfl⟩ := List.getElem_of_mem hx
      exact (hq j hj).2.2.2
set_option maxRecDepth 100000 in
theorem open_runs {H : Type} {enc : TypeId × Value → H} {W : World} {base : Nat} {sp : Nat → Bool} {r : Reach} {b0 : Nat} {v : Value} {d : DataW H} {p : List MemPlace}
    (hv : Value.okWide Try.prog W r b0 22 v) (h : DataW.Trod enc Try.prog W base sp true 22 v d p) :
    ∃ (A : Option Addr) (cap : Nat) (L : List Rn), v = .slice A L.length cap ∧ L.length ≤ cap ∧ ER W A L ∧ ∀ x ∈ L, EU x := by
  obtain ⟨a0, len0, cap0, rfl⟩ := okWide_slice Try.underlying22 hv
  obtain ⟨fuel, hf⟩ := h
  exact open_runs_in (by simpa [Value.cells] using hf)
set_option maxRecDepth 100000 in
theorem open_span {H : Type} {enc : TypeId × Value → H} {W : World} {base : Nat} {sp : Nat → Bool} {r : Reach} {b0 : Nat} {v : Value} {d : DataW H} {p : List MemPlace}
    (hv : Value.okWide Try.prog W r b0 37 v) (h : DataW.Trod enc Try.prog W base sp true 37 v d p) :
    ∃ (f n : Int), v = .agg #[.int .u64 f, .int .u64 n] ∧ (0 ≤ f ∧ f ≤ 18446744073709551615) ∧ (0 ≤ n ∧ n ≤ 18446744073709551615) := by
  obtain ⟨cs, rfl, hcs⟩ := okWide_struct Try.underlying37 hv
  obtain ⟨fuel, hf⟩ := h
  rw [cellsSp] at hcs
  obtain ⟨x, y, rfl⟩ : ∃ x y, cs = #[x, y] := by
    obtain ⟨l⟩ := cs
    match l, hcs with
    | [x, y], _ => exact ⟨x, y, rfl⟩
  obtain ⟨y0, y1, n, _, _, t0, t1⟩ := trod_struct2 Try.underlying37 hf
  have e0 : Try.prog.cellsOf 23 = 1 := by kernel_rfl
  simp only [e0] at t0 t1
  obtain ⟨k0, h0, _, w0⟩ := DataW.trod_int Try.underlying23 (by simpa [Value.cells] using t0)
  obtain ⟨k1, h1, _, w1⟩ := DataW.trod_int Try.underlying23 (by simpa [Value.cells] using t1)
  simp at h0 h1
  subst h0 h1
  exact ⟨k0, k1, rfl, u64_in w0, u64_in w1⟩
end Go.Proofs.Ythimnpiiehggnaa
/- The reference's more: a number put among rising ones. -/
namespace Go.Proofs.Ythimnpiiehggnaa
open Go.RowKit

/-- One round of more. -/
def emst (n : Int) (p : List Int × Bool) (x : Int) : List Int × Bool :=
  if x = n then (if p.2 then p else (p.1 ++ [n], true)) else (if n ≤ x ∧ p.2 = false then (p.1 ++ [n, x], true) else (p.1 ++ [x], p.2))
def efin (n : Int) (p : List Int × Bool) : List Int := bif p.2 then p.1 else p.1 ++ [n]
/-- What more makes. -/
def emore (l : List Int) (n most : Int) : List Int :=
  if most ≤ n then l else efin n (l.foldl (emst n) ([], false))
theorem emst_len (n : Int) (p : List Int × Bool) (x : Int) : (emst n p x).1.length ≤ p.1.length + 2 := by
  unfold emst
  split
  · split
    · omega
    · simp
  · split
    · simp
    · simp
theorem emst_fold (n : Int) (l : List Int) : ∀ p : List Int × Bool, (l.foldl (emst n) p).1.length ≤ p.1.length + 2 * l.length := by
  induction l with
  | nil => intro p; simp
  | cons x l ih =>
    intro p
    have h1 := ih (emst n p x)
    have h2 := emst_len n p x
    rw [List.foldl_cons, List.length_cons]
    omega
theorem emst_more (n : Int) (l : List Int) (k : Nat) (h : k < l.length) : (l.take (k + 1)).foldl (emst n) ([], false) = emst n ((l.take k).foldl (emst n) ([], false)) (l.getD k 0) := by
  have e : l.take (k + 1) = l.take k ++ [l.getD k 0] := by
    rw [← List.take_append_getElem h]
    simp [List.getD, h]
  rw [e, List.foldl_append]
  rfl
/-- A number put among rising ones. -/
def eins (n : Int) : List Int → List Int
  | [] => [n]
  | x :: l => if x = n then x :: l else if n < x then n :: x :: l else x :: eins n l
theorem emst_there (n : Int) (l : List Int) : ∀ A : List Int, (∀ x ∈ l, n < x) → l.foldl (emst n) (A, true) = (A ++ l, true) := by
  induction l with
  | nil => intro A _; simp
  | cons x l ih =>
    intro A h
    have hx := h x (List.mem_cons_self ..)
    rw [List.foldl_cons]
    have e : emst n (A, true) x = (A ++ [x], true) := by
      unfold emst
      rw [if_neg (by omega), if_neg (by simp)]
    rw [e, ih _ (fun y hy => h y (List.mem_cons_of_mem _ hy))]
    simp
theorem emst_ins (n : Int) (l : List Int) : ∀ A : List Int, l.Pairwise (· < ·) → efin n (l.foldl (emst n) (A, false)) = A ++ eins n l := by
  induction l with
  | nil => intro A _; simp [eins, efin]
  | cons x l ih =>
    intro A h
    rw [List.pairwise_cons] at h
    rw [List.foldl_cons]
    by_cases e : x = n
    · have e1 : emst n (A, false) x = (A ++ [n], true) := by unfold emst; rw [if_pos e]; rfl
      rw [e1, emst_there n l _ (fun y hy => by have := h.1 y hy; omega)]
      subst e
      simp [eins, efin]
    · by_cases e2 : n < x
      · have e1 : emst n (A, false) x = (A ++ [n, x], true) := by unfold emst; rw [if_neg e, if_pos ⟨by omega, rfl⟩]
        rw [e1, emst_there n l _ (fun y hy => by have := h.1 y hy; omega)]
        simp [eins, efin, e, e2]
      · have e1 : emst n (A, false) x = (A ++ [x], false) := by unfold emst; rw [if_neg e, if_neg (by omega)]
        rw [e1, ih (A ++ [x]) h.2]
        simp [eins, e, e2]
theorem emore_ins {l : List Int} (h : l.Pairwise (· < ·)) (n most : Int) : emore l n most = if most ≤ n then l else eins n l := by
  unfold emore
  split
  · rfl
  · have := emst_ins n l [] h
    simpa using this
theorem eins_mem (n : Int) (l : List Int) (x : Int) : x ∈ eins n l ↔ x = n ∨ x ∈ l := by
  induction l with
  | nil => simp [eins]
  | cons y l ih =>
    unfold eins
    split
    · rename_i e
      subst e
      simp
    · split
      · simp
      · simp only [List.mem_cons, ih]
        constructor
        · rintro (h | h | h)
          · exact .inr (.inl h)
          · exact .inl h
          · exact .inr (.inr h)
        · rintro (h | h | h)
          · exact .inr (.inl h)
          · exact .inl h
          · exact .inr (.inr h)
theorem eins_rise (n : Int) (l : List Int) (h : l.Pairwise (· < ·)) : (eins n l).Pairwise (· < ·) := by
  induction l with
  | nil => simp [eins]
  | cons y l ih =>
    have h2 := h
    rw [List.pairwise_cons] at h
    unfold eins
    split
    · exact h2
    · split
      · rename_i e1 e2
        rw [List.pairwise_cons]
        refine ⟨fun x hx => ?_, h2⟩
        rcases List.mem_cons.1 hx with rfl | hx
        · exact e2
        · have := h.1 x hx; omega
      · rename_i e1 e2
        rw [List.pairwise_cons]
        refine ⟨fun x hx => ?_, ih h.2⟩
        rcases (eins_mem n l x).1 hx with rfl | hx
        · omega
        · exact h.1 x hx
theorem emore_mem {l : List Int} (h : l.Pairwise (· < ·)) (n most x : Int) : x ∈ emore l n most ↔ (x = n ∧ n < most) ∨ x ∈ l := by
  rw [emore_ins h]
  split
  · constructor
    · exact .inr
    · rintro (h | h)
      · omega
      · exact h
  · rw [eins_mem]
    constructor
    · rintro (h | h)
      · exact .inl ⟨h, by omega⟩
      · exact .inr h
    · rintro (h | h)
      · exact .inl h.1
      · exact .inr h
theorem emore_rise {l : List Int} (h : l.Pairwise (· < ·)) (n most : Int) : (emore l n most).Pairwise (· < ·) := by
  rw [emore_ins h]
  split
  · exact h
  · exact eins_rise n l h
theorem eins_len (n : Int) (l : List Int) : (eins n l).length ≤ l.length + 1 := by
  induction l with
  | nil => simp [eins]
  | cons y l ih =>
    unfold eins
    split
    · simp
    · split
      · simp
      · simp; omega
theorem emore_len {l : List Int} (h : l.Pairwise (· < ·)) (n most : Int) : (emore l n most).length ≤ l.length + 1 := by
  rw [emore_ins h]
  split
  · omega
  · exact eins_len n l

/-- The cells of numbers, and a row of them that can be read. -/
def ucs (l : List Int) : List Value := l.map fun x => .int .u64 x
def UR (w : World) (A : Option Addr) (l : List Int) : Prop := ∀ j, j < l.length → ∃ g off, A = some ⟨g, off, none⟩ ∧ w.cell? ⟨g, off + j, none⟩ = some (.int .u64 (l.getD j 0))
theorem UR.later {w w' : World} {A : Option Addr} {l : List Int} (h : UR w A l) (hb : Below w.heap.size w w') : UR w' A l := fun j hj => by
  obtain ⟨g, off, e, h0⟩ := h j hj
  exact ⟨g, off, e, cell_later hb h0⟩
theorem own_UR {W : World} {base : Nat} {t : TypeId} {A : Option Addr} {n c : Nat} {l : List Int} (h : W.ownsRow base t 1 (.slice A n c) n (ucs l)) (hl : l.length = n) : UR W A l := by
  obtain ⟨A', c', e, hh⟩ := own_form h
  injection e with e1 e2 e3
  subst e1
  subst e3
  rcases hh with ⟨rfl, rfl, rfl⟩ | ⟨g, rfl, _⟩
  · obtain rfl : l = [] := List.eq_nil_of_length_eq_zero hl
    exact fun j hj => absurd hj (by simp)
  · intro j hj
    exact ⟨g, 0, rfl, by rw [Nat.zero_add, h.cellAt j (by omega)]; simp [ucs, List.getD, hj]⟩
theorem infoU : (Try.prog.info? 23).map (fun i => (i.zero, i.size, i.bytes)) = some (some (.int .u64 0), 1, 8) := by kernel_rfl

set_option maxRecDepth 100000 in
set_option maxHeartbeats 8000000 in
theorem emore_any (A : Option Addr) (N c : Nat) (l : List Int) (n most : Int) (w : World) (hA : UR w A l) (hl : l.length = N) (hN : N ≤ 1024) :
    Calls Try.prog 46 #[.slice A N c, .int .u64 n, .int .u64 most] w fun e w' => ∃ A' c', e = .returned (.slice A' (emore l n most).length c') ∧ UR w' A' (emore l n most) ∧ Below w.heap.size w w' := by
  by_cases hm : most ≤ n
  · have HE : Hid (emore l n most = l) := Lib.hid (by unfold emore; rw [if_pos hm])
    rw [HE.out, hl]
    have HA := Lib.hid hA
    clear hA hl
    go_enter Try.func46, Try.ntmps46
    go_wp2
    go_ret
    exact ⟨A, c, rfl, HA.out, Below.refl _ _⟩
  · have HE : Hid (∀ out b, l.foldl (emst n) ([], false) = (out, b) → emore l n most = bif b then out else out ++ [n]) := Lib.hid fun out b h => by
      unfold emore
      rw [if_neg hm, h]
      rfl
    have hd : decide (most ≤ n) = false := by simpa using hm
    have HA := Lib.hid hA
    have HL := Lib.hid hl
    have HST := Lib.hid (fun k hk => emst_more n l k hk)
    have HLN : Hid (∀ k, ((l.take k).foldl (emst n) ([], false)).1.length ≤ 2 * N) := Lib.hid fun k => by
      have h1 := emst_fold n (l.take k) ([], false)
      have h2 : (l.take k).length ≤ N := by rw [List.length_take]; omega
      simp only [List.length_nil] at h1
      omega
    obtain ⟨i0, hi0, hz0, hz1, hz2⟩ := info_parts infoU
    have HO0 : Hid ((w.alloc (.cells #[] 23)).ownsRow w.heap.size 23 1 (.slice (some ⟨w.heap.size, 0, none⟩) 0 0) 0 (ucs [])) := Lib.hid (own_nil (heap_alloc_new w _) (Nat.le_refl _))
    have HB0 : Hid (Below w.heap.size w (w.alloc (.cells #[] 23))) := Lib.hid (ba (Below.refl _ _) _)
    clear hA hl hm
    go_enter Try.func46, Try.ntmps46
    go_wp2_with fail
    go_loopw [7, 8, 18] (fun ov bv iv wr => ∃ (k : Nat) (A2 : Option Addr) (m c2 : Nat) (out : List Int) (b : Bool), k ≤ N ∧ iv = .int .i64 k ∧ bv = .bool b ∧ ov = .slice A2 m c2 ∧ Hid ((l.take k).foldl (emst n) ([], false) = (out, b)) ∧ Hid (out.length = m) ∧ Hid (wr.ownsRow w.heap.size 23 1 (.slice A2 m c2) m (ucs out)) ∧ Hid (Below w.heap.size w wr)) (fun _ _ i _ => N - (intOf i).toNat)
    case atStart => exact ⟨0, _, 0, 0, [], false, Nat.zero_le _, rfl, rfl, rfl, Lib.hid rfl, Lib.hid rfl, HO0, HB0⟩
    case round =>
      obtain ⟨k, A2, m, c2, out, b, hk, rfl, rfl, rfl, HF, HM, HO, HB⟩ := hrel
      have hm9 : m ≤ 2048 := by have := HLN.out k; rw [HF.out] at this; have := HM.out; simp only at *; omega
      by_cases hlt : k < N
      · obtain ⟨g, off, rfl, d0⟩ := (HA.out.later HB.out) k (by rw [HL.out]; exact hlt)
        have HS := Lib.hid (HST.out k (by rw [HL.out]; exact hlt))
        rw [HF.out] at HS
        have i1 : (0 : Int) ≤ (k : Int) := by omega
        have i2 : (k : Int) < (N : Int) := by omega
        generalize l.getD k 0 = x at d0 HS
        by_cases he : x = n
        · subst he
          cases b with
          | true =>
            have HE1 : Hid (emst x (out, true) x = (out, true)) := Lib.hid (by unfold emst; rw [if_pos rfl]; rfl)
            go_wp2_with fail
            exact ⟨⟨k + 1, A2, m, c2, out, true, by omega, by go_num, rfl, rfl, Lib.hid (by rw [HS.out]; exact HE1.out), Lib.hid HM.out, Lib.hid HO.out, Lib.hid HB.out⟩, by simp [intOf]; omega⟩
          | false =>
            have HE1 : Hid (emst x (out, false) x = (out ++ [x], true)) := Lib.hid (by unfold emst; rw [if_pos rfl]; rfl)
            have hoa := own_alloc HO.out (.cells #[.int .u64 x] 23)
            have hwa : ∀ (j : Nat) (u : Value), ([.int .u64 x] : List Value)[j]? = some u → (wr.alloc (.cells #[.int .u64 x] 23)).cell? ((⟨wr.heap.size, 0, none⟩ : Addr).add j) = some u := news_new wr [.int .u64 x] 23
            have hsa : w.heap.size ≤ (wr.alloc (.cells #[.int .u64 x] 23)).heap.size := (ba HB.out _).size
            go_wp2_with (at_builtin; refine wpList_append_own_at _ rfl _ _ 71 rfl w.heap.size 23 i0 (.int .u64 0) 1 8 Try.underlying71 hi0 hz0 hz1 hz2 rfl (by decide) _ _ _ rfl hoa ⟨wr.heap.size, 0, none⟩ 1 1 [.int .u64 x] rfl rfl hwa (by simp [Value.oneCell']) (by unfold maxLen; omega) (by omega) hsa ?_; intro va wa ho2a hga _ _; obtain ⟨ga, ca, rfl⟩ := ownsRow_succ ho2a; have HAa : Hid (wa.ownsRow w.heap.size 23 1 (.slice (some ⟨ga, 0, none⟩) (m + 1) ca) (m + 1) (ucs (out ++ [x])) ∧ Below w.heap.size w wa) := Lib.hid ⟨by unfold ucs at ho2a ⊢; rw [List.map_append]; exact ho2a, (ba HB.out _).grown hga hsa (fun q e => (hoa.lt q e).1)⟩; clear ho2a hga hoa hwa)
            exact ⟨⟨k + 1, some ⟨ga, 0, none⟩, m + 1, ca, out ++ [x], true, by omega, by go_num, rfl, rfl, Lib.hid (by rw [HS.out]; exact HE1.out), Lib.hid (by rw [List.length_append, HM.out]; rfl), Lib.hid HAa.out.1, Lib.hid HAa.out.2⟩, by simp [intOf]; omega⟩
        · have e1 : (x == n) = false := by simpa using he
          have e2 : (x != n) = true := by simpa using he
          by_cases hge : n ≤ x
          · cases b with
            | true =>
              have HE1 : Hid (emst n (out, true) x = (out ++ [x], true)) := Lib.hid (by unfold emst; rw [if_neg he, if_neg (by simp)])
              clear he
              have hoa := own_alloc HO.out (.cells #[.int .u64 x] 23)
              have hwa : ∀ (j : Nat) (u : Value), ([.int .u64 x] : List Value)[j]? = some u → (wr.alloc (.cells #[.int .u64 x] 23)).cell? ((⟨wr.heap.size, 0, none⟩ : Addr).add j) = some u := news_new wr [.int .u64 x] 23
              have hsa : w.heap.size ≤ (wr.alloc (.cells #[.int .u64 x] 23)).heap.size := (ba HB.out _).size
              go_wp2_with (at_builtin; refine wpList_append_own_at _ rfl _ _ 71 rfl w.heap.size 23 i0 (.int .u64 0) 1 8 Try.underlying71 hi0 hz0 hz1 hz2 rfl (by decide) _ _ _ rfl hoa ⟨wr.heap.size, 0, none⟩ 1 1 [.int .u64 x] rfl rfl hwa (by simp [Value.oneCell']) (by unfold maxLen; omega) (by omega) hsa ?_; intro va wa ho2a hga _ _; obtain ⟨ga, ca, rfl⟩ := ownsRow_succ ho2a; have HAa : Hid (wa.ownsRow w.heap.size 23 1 (.slice (some ⟨ga, 0, none⟩) (m + 1) ca) (m + 1) (ucs (out ++ [x])) ∧ Below w.heap.size w wa) := Lib.hid ⟨by unfold ucs at ho2a ⊢; rw [List.map_append]; exact ho2a, (ba HB.out _).grown hga hsa (fun q e => (hoa.lt q e).1)⟩; clear ho2a hga hoa hwa)
              exact ⟨⟨k + 1, some ⟨ga, 0, none⟩, m + 1, ca, out ++ [x], true, by omega, by go_num, rfl, rfl, Lib.hid (by rw [HS.out]; exact HE1.out), Lib.hid (by rw [List.length_append, HM.out]; rfl), Lib.hid HAa.out.1, Lib.hid HAa.out.2⟩, by simp [intOf]; omega⟩
            | false =>
              have HE1 : Hid (emst n (out, false) x = ((out ++ [n]) ++ [x], true)) := Lib.hid (by unfold emst; rw [if_neg he, if_pos ⟨hge, rfl⟩]; simp)
              clear he
              have hoa := own_alloc HO.out (.cells #[.int .u64 n] 23)
              have hwa : ∀ (j : Nat) (u : Value), ([.int .u64 n] : List Value)[j]? = some u → (wr.alloc (.cells #[.int .u64 n] 23)).cell? ((⟨wr.heap.size, 0, none⟩ : Addr).add j) = some u := news_new wr [.int .u64 n] 23
              have hsa : w.heap.size ≤ (wr.alloc (.cells #[.int .u64 n] 23)).heap.size := (ba HB.out _).size
              go_upto_region 12 with (at_builtin; refine wpList_append_own_at _ rfl _ _ 71 rfl w.heap.size 23 i0 (.int .u64 0) 1 8 Try.underlying71 hi0 hz0 hz1 hz2 rfl (by decide) _ _ _ rfl hoa ⟨wr.heap.size, 0, none⟩ 1 1 [.int .u64 n] rfl rfl hwa (by simp [Value.oneCell']) (by unfold maxLen; omega) (by omega) hsa ?_; intro va wa ho2a hga _ _; obtain ⟨ga, ca, rfl⟩ := ownsRow_succ ho2a; have HAa : Hid (wa.ownsRow w.heap.size 23 1 (.slice (some ⟨ga, 0, none⟩) (m + 1) ca) (m + 1) (ucs (out ++ [n])) ∧ Below w.heap.size w wa) := Lib.hid ⟨by unfold ucs at ho2a ⊢; rw [List.map_append]; exact ho2a, (ba HB.out _).grown hga hsa (fun q e => (hoa.lt q e).1)⟩; clear ho2a hga hoa hwa)
              have hob := own_alloc HAa.out.1 (.cells #[.int .u64 x] 23)
              have hwb : ∀ (j : Nat) (u : Value), ([.int .u64 x] : List Value)[j]? = some u → (wa.alloc (.cells #[.int .u64 x] 23)).cell? ((⟨wa.heap.size, 0, none⟩ : Addr).add j) = some u := news_new wa [.int .u64 x] 23
              have hsb : w.heap.size ≤ (wa.alloc (.cells #[.int .u64 x] 23)).heap.size := (ba HAa.out.2 _).size
              go_wp2_with (at_builtin; refine wpList_append_own_at _ rfl _ _ 71 rfl w.heap.size 23 i0 (.int .u64 0) 1 8 Try.underlying71 hi0 hz0 hz1 hz2 rfl (by decide) _ _ _ rfl hob ⟨wa.heap.size, 0, none⟩ 1 1 [.int .u64 x] rfl rfl hwb (by simp [Value.oneCell']) (by unfold maxLen; omega) (by omega) hsb ?_; intro vb wb ho2b hgb _ _; obtain ⟨gb, cb, rfl⟩ := ownsRow_succ ho2b; have HAb : Hid (wb.ownsRow w.heap.size 23 1 (.slice (some ⟨gb, 0, none⟩) (m + 1 + 1) cb) (m + 1 + 1) (ucs ((out ++ [n]) ++ [x])) ∧ Below w.heap.size w wb) := Lib.hid ⟨by unfold ucs at ho2b ⊢; rw [List.map_append]; exact ho2b, (ba HAa.out.2 _).grown hgb hsb (fun q e => (hob.lt q e).1)⟩; clear ho2b hgb hob hwb)
              exact ⟨⟨k + 1, some ⟨gb, 0, none⟩, m + 1 + 1, cb, (out ++ [n]) ++ [x], true, by omega, by go_num, rfl, rfl, Lib.hid (by rw [HS.out]; exact HE1.out), Lib.hid (by rw [List.length_append, List.length_append, HM.out]; rfl), Lib.hid HAb.out.1, Lib.hid HAb.out.2⟩, by simp [intOf]; omega⟩
          · have HE1 : Hid (emst n (out, b) x = (out ++ [x], b)) := Lib.hid (by unfold emst; rw [if_neg he, if_neg (fun h => hge h.1)])
            have e3 : decide (n ≤ x) = false := by simpa using hge
            clear he hge
            have hoa := own_alloc HO.out (.cells #[.int .u64 x] 23)
            have hwa : ∀ (j : Nat) (u : Value), ([.int .u64 x] : List Value)[j]? = some u → (wr.alloc (.cells #[.int .u64 x] 23)).cell? ((⟨wr.heap.size, 0, none⟩ : Addr).add j) = some u := news_new wr [.int .u64 x] 23
            have hsa : w.heap.size ≤ (wr.alloc (.cells #[.int .u64 x] 23)).heap.size := (ba HB.out _).size
            go_wp2_with (at_builtin; refine wpList_append_own_at _ rfl _ _ 71 rfl w.heap.size 23 i0 (.int .u64 0) 1 8 Try.underlying71 hi0 hz0 hz1 hz2 rfl (by decide) _ _ _ rfl hoa ⟨wr.heap.size, 0, none⟩ 1 1 [.int .u64 x] rfl rfl hwa (by simp [Value.oneCell']) (by unfold maxLen; omega) (by omega) hsa ?_; intro va wa ho2a hga _ _; obtain ⟨ga, ca, rfl⟩ := ownsRow_succ ho2a; have HAa : Hid (wa.ownsRow w.heap.size 23 1 (.slice (some ⟨ga, 0, none⟩) (m + 1) ca) (m + 1) (ucs (out ++ [x])) ∧ Below w.heap.size w wa) := Lib.hid ⟨by unfold ucs at ho2a ⊢; rw [List.map_append]; exact ho2a, (ba HB.out _).grown hga hsa (fun q e => (hoa.lt q e).1)⟩; clear ho2a hga hoa hwa)
            exact ⟨⟨k + 1, some ⟨ga, 0, none⟩, m + 1, ca, out ++ [x], b, by omega, by go_num, rfl, rfl, Lib.hid (by rw [HS.out]; exact HE1.out), Lib.hid (by rw [List.length_append, HM.out]; rfl), Lib.hid HAa.out.1, Lib.hid HAa.out.2⟩, by simp [intOf]; omega⟩
      · obtain rfl : k = N := by omega
        have HF9 : Hid (l.foldl (emst n) ([], false) = (out, b)) := Lib.hid (by rw [← HF.out, ← HL.out, List.take_length])
        have HR9 := Lib.hid (HE.out out b HF9.out)
        cases b with
        | true =>
          have HR : Hid (emore l n most = out) := Lib.hid (by rw [HR9.out]; rfl)
          go_wp2
          go_ret
          exact ⟨A2, c2, by rw [HR.out, HM.out]; rfl, by rw [HR.out]; exact own_UR HO.out HM.out, HB.out⟩
        | false =>
          have HR : Hid (emore l n most = out ++ [n]) := Lib.hid (by rw [HR9.out]; rfl)
          have HRL : Hid ((emore l n most).length = m + 1) := Lib.hid (by rw [HR.out, List.length_append, HM.out]; rfl)
          have hoa := own_alloc HO.out (.cells #[.int .u64 n] 23)
          have hwa : ∀ (j : Nat) (u : Value), ([.int .u64 n] : List Value)[j]? = some u → (wr.alloc (.cells #[.int .u64 n] 23)).cell? ((⟨wr.heap.size, 0, none⟩ : Addr).add j) = some u := news_new wr [.int .u64 n] 23
          have hsa : w.heap.size ≤ (wr.alloc (.cells #[.int .u64 n] 23)).heap.size := (ba HB.out _).size
          go_wp2_with (at_builtin; refine wpList_append_own_at _ rfl _ _ 71 rfl w.heap.size 23 i0 (.int .u64 0) 1 8 Try.underlying71 hi0 hz0 hz1 hz2 rfl (by decide) _ _ _ rfl hoa ⟨wr.heap.size, 0, none⟩ 1 1 [.int .u64 n] rfl rfl hwa (by simp [Value.oneCell']) (by unfold maxLen; omega) (by omega) hsa ?_; intro va wa ho2a hga _ _; obtain ⟨ga, ca, rfl⟩ := ownsRow_succ ho2a; have HAa : Hid (wa.ownsRow w.heap.size 23 1 (.slice (some ⟨ga, 0, none⟩) (m + 1) ca) (m + 1) (ucs (out ++ [n])) ∧ Below w.heap.size w wa) := Lib.hid ⟨by unfold ucs at ho2a ⊢; rw [List.map_append]; exact ho2a, (ba HB.out _).grown hga hsa (fun q e => (hoa.lt q e).1)⟩; clear ho2a hga hoa hwa)
          go_wp2
          go_ret
          exact ⟨some ⟨ga, 0, none⟩, ca, by rw [HRL.out]; rfl, by rw [HR.out]; exact own_UR HAa.out.1 (by rw [List.length_append, HM.out]; rfl), HAa.out.2⟩
end Go.Proofs.Ythimnpiiehggnaa
/- The reference's with: runs, and one state up to a place. -/
namespace Go.Proofs.Ythimnpiiehggnaa
open Go.RowKit

/-- Runs, and one state from a place up to another one. -/
def ewith (L : List Rn) (a b t : Int) : List Rn :=
  if L.length ≠ 0 ∧ (L.getD (L.length - 1) default).s = t ∧ (L.getD (L.length - 1) default).f + (L.getD (L.length - 1) default).n = a then L.set (L.length - 1) ⟨(L.getD (L.length - 1) default).f, b - (L.getD (L.length - 1) default).f, (L.getD (L.length - 1) default).s⟩
  else L ++ [⟨a, b - a, t⟩]
theorem ewith_len (L : List Rn) (a b t : Int) : (ewith L a b t).length ≤ L.length + 1 := by
  unfold ewith
  split <;> simp
theorem eappend_none (W : World) (ty : TypeId) (A B : Option Addr) (n c d : Nat) (h : n ≤ c) :
    (Builtin.append_ #[22, 22] ty #[.slice A n c, .slice B 0 d]).run Try.prog W = .ok (.slice A n c) W := by
  obtain ⟨ti, hi0, hz0, hz1, hz2⟩ := info_parts infoE
  cases A <;> cases B <;> simp [Builtin.append_, run_underlying Try.underlying22, sizeOf, typeInfo, hi0, h, Builtin.lenOf, Builtin.firstCells, loadCells, loadCellsFrom, storeCells]
set_option maxRecDepth 100000 in
/-- A row that can be read, appended to one that the call made. -/
theorem eappend_row {W : World} {base n c d m : Nat} {A B : Option Addr} {X Y : List Rn} (ho : W.ownsRow base 47 3 (.slice A n c) n (rcells Y)) (hs : ER W B X) (hm : X.length = m) (hn : n + m ≤ 65536) (hb : base ≤ W.heap.size) :
    ∃ A' c' W', (Builtin.append_ #[22, 22] 22 #[.slice A n c, .slice B m d]).run Try.prog W = .ok (.slice A' (n + m) c') W' ∧ W'.ownsRow base 47 3 (.slice A' (n + m) c') (n + m) (rcells (Y ++ X)) ∧ Below base W W' := by
  obtain ⟨ti, hi0, hz0, hz1, hz2⟩ := info_parts infoE
  by_cases h0 : X = []
  · subst h0
    obtain rfl : m = 0 := by rw [← hm]; rfl
    obtain ⟨A', c', e, hh⟩ := own_form ho
    injection e with _ _ e3
    subst e3
    have hnc : n ≤ c := by rcases hh with ⟨_, h1, h2⟩ | ⟨_, _, h1, _⟩ <;> omega
    exact ⟨A, c, W, eappend_none W _ A B n c d hnc, by simpa using ho, Below.refl _ _⟩
  · have hpos : 0 < X.length := List.length_pos_iff.2 h0
    obtain ⟨g, off, rfl, _⟩ := hs 0 hpos
    obtain ⟨v', w', hr, h2, h3, h4⟩ := run_append_own (P := Try.prog) W base 22 22 47 ti (.agg #[.int .u64 0, .int .u64 0, .int .i64 0]) 3 24 Try.underlying22 hi0 hz0 hz1 hz2 rfl (by decide) (.slice A n c) n (rcells Y) ho ⟨g, off, none⟩ m d (rcells X) (by rw [rcells_len, hm]) hs.cells (rcells_one X) (by unfold maxLen; omega) (by omega) hb
    obtain ⟨A', c', rfl, _⟩ := own_form h2
    exact ⟨A', c', w', hr, by rw [rcells_more]; exact h2, (Below.refl _ _).grown h3 hb (fun k e => (ho.lt k e).1)⟩
/-- A length stored into a row. -/
theorem ER.setn {w : World} {g : Nat} {t : TypeId} {cur : Array Value} {L : List Rn} (h : ER w (some ⟨g, 0, none⟩) L) (hb : Blk w g t cur) (m : Nat) (v : Int) :
    ER (w.setCell ⟨g, m * 3 + 1, none⟩ (.int .u64 v)) (some ⟨g, 0, none⟩) (L.set m ⟨(L.getD m default).f, v, (L.getD m default).s⟩) := by
  have hc : ∀ k, (w.setCell ⟨g, m * 3 + 1, none⟩ (.int .u64 v)).cell? ⟨g, k, none⟩ = if m * 3 + 1 = k then (if m * 3 + 1 < cur.size then some (.int .u64 v) else none) else w.cell? ⟨g, k, none⟩ := fun k => by
    rw [(hb.set_ (m * 3 + 1) (.int .u64 v)).cell k, hb.cell k, Array.getElem?_setIfInBounds]
  intro j hj
  rw [List.length_set] at hj
  obtain ⟨g', off', e, d0, d1, d2⟩ := h j hj
  obtain ⟨rfl, rfl⟩ : g = g' ∧ 0 = off' := by injection e with e; injection e with e1 e2; exact ⟨e1, e2⟩
  refine ⟨g, 0, rfl, ?_, ?_, ?_⟩
  · rw [hc, if_neg (by omega), d0]
    by_cases e : m = j
    · subst e; simp [hj]
    · simp [List.getD, e]
  · by_cases e : m = j
    · subst e
      have hsz : m * 3 + 1 < cur.size := by
        rw [hb.cell] at d1
        have := (Array.getElem?_eq_some_iff.1 d1).1
        omega
      rw [hc, if_pos (by omega), if_pos hsz]
      simp [hj]
    · rw [hc, if_neg (by omega), d1]
      simp [List.getD, e]
  · rw [hc, if_neg (by omega), d2]
    by_cases e : m = j
    · subst e; simp [hj]
    · simp [List.getD, e]

/-- A row of runs told. -/
def EROut (w : World) (R : List Rn) (e : Ending) (w' : World) : Prop := ∃ A' c', e = .returned (.slice A' R.length c') ∧ ER w' A' R ∧ Below w.heap.size w w' ∧ ∀ g off, R ≠ [] → A' = some ⟨g, off, none⟩ → w.heap.size ≤ g

set_option maxRecDepth 100000 in
set_option maxHeartbeats 8000000 in
theorem ewith_any (A : Option Addr) (N c : Nat) (L : List Rn) (a b t : Int) (w : World) (hA : ER w A L) (hl : L.length = N) (hN : N ≤ 1024) (hL : ∀ r ∈ L, 0 ≤ r.f ∧ 0 ≤ r.n ∧ r.f + r.n ≤ a) (h0 : 0 ≤ a) (hab : a ≤ b) (hb1 : b ≤ 576460752303423488) :
    Calls Try.prog 47 #[.slice A N c, .int .u64 a, .int .u64 b, .int .i64 t] w (EROut w (ewith L a b t)) := by
  have hO0 : (w.alloc (.cells #[] 47)).ownsRow w.heap.size 47 3 (.slice (some ⟨w.heap.size, 0, none⟩) 0 0) 0 (rcells []) := own_nil (heap_alloc_new w _) (Nat.le_refl _)
  have hB0 : Below w.heap.size w (w.alloc (.cells #[] 47)) := ba (Below.refl _ _) _
  obtain ⟨A1, c1, W1, hr1, ho1, hb2⟩ := eappend_row (d := c) hO0 (hA.later hB0) hl (by omega) hB0.size
  rw [Nat.zero_add] at hr1 ho1
  have HB1 := Lib.hid (hB0.trans hb2)
  have HO1 : Hid (W1.ownsRow w.heap.size 47 3 (.slice A1 N c1) N (rcells L)) := Lib.hid ho1
  have HR1 : Hid (ER W1 A1 L) := Lib.hid (own_ER ho1 hl)
  obtain ⟨i0, hi0, hz0, hz1, hz2⟩ := info_parts infoE
  have HL := Lib.hid hl
  clear hO0 hB0 ho1 hb2 hA
  rcases Nat.eq_zero_or_pos N with rfl | hpos
  · have HW : Hid (ewith L a b t = L ++ [⟨a, b - a, t⟩]) := Lib.hid (by unfold ewith; rw [if_neg (by rw [hl]; simp)])
    have HWL : Hid ((ewith L a b t).length = 0 + 1) := Lib.hid (by rw [HW.out, List.length_append, hl]; rfl)
    have d1 : decide ((0 : Int) ≤ -1) = false := by decide
    clear hl hL
    go_enter Try.func47, Try.ntmps47
    go_upto_region 4 with (at_builtin; refine Lib.wpList_append_run _ rfl _ _ 22 22 rfl (.slice (some ⟨w.heap.size, 0, none⟩) 0 0) (.slice A 0 c) rfl rfl _ _ hr1 ?_; clear hr1)
    go_quiet (fail)
    have HON := Lib.hid (HO1.out)
    generalize hW2 : W1.drewN nq = W2
    have HO2 : Hid (W2.ownsRow w.heap.size 47 3 (.slice A1 0 c1) 0 (rcells L)) := Lib.hid (by rw [← hW2]; exact HO1.out)
    have HB2 : Hid (Below w.heap.size w W2) := Lib.hid (by rw [← hW2]; exact bdn' HB1.out _)
    clear hW2 HON
    have ho2 := own_alloc HO2.out (.cells #[.int .u64 a, .int .u64 (b - a), .int .i64 t] 47)
    have hnews : ∀ (j : Nat) (u : Value), ([.int .u64 a, .int .u64 (b - a), .int .i64 t] : List Value)[j]? = some u → (W2.alloc (.cells #[.int .u64 a, .int .u64 (b - a), .int .i64 t] 47)).cell? ((⟨W2.heap.size, 0, none⟩ : Addr).add j) = some u := news_new W2 [.int .u64 a, .int .u64 (b - a), .int .i64 t] 47
    have hsz : w.heap.size ≤ (W2.alloc (.cells #[.int .u64 a, .int .u64 (b - a), .int .i64 t] 47)).heap.size := (ba HB2.out _).size
    go_wp2_with (at_builtin; refine wpList_append_own_at _ rfl _ _ 22 rfl w.heap.size 47 i0 (.agg #[.int .u64 0, .int .u64 0, .int .i64 0]) 3 24 Try.underlying22 hi0 hz0 hz1 hz2 rfl (by decide) _ _ _ rfl ho2 ⟨W2.heap.size, 0, none⟩ 1 1 [.int .u64 a, .int .u64 (b - a), .int .i64 t] rfl rfl hnews (by simp [Value.oneCell']) (by unfold maxLen; omega) (by omega) hsz ?_; intro v6 w6 ho6 hg6 _ _; obtain ⟨g6, c6, rfl⟩ := ownsRow_succ ho6; have HA6 : Hid (w6.ownsRow w.heap.size 47 3 (.slice (some ⟨g6, 0, none⟩) (0 + 1) c6) (0 + 1) (rcells (L ++ [⟨a, b - a, t⟩])) ∧ Below w.heap.size w w6) := Lib.hid ⟨by rw [rcells_snoc]; exact ho6, (ba HB2.out _).grown hg6 hsz (fun q e => (ho2.lt q e).1)⟩; clear ho6 hg6 ho2 hnews)
    go_ret
    exact ⟨some ⟨g6, 0, none⟩, c6, by rw [HWL.out]; rfl, by rw [HW.out]; exact own_ER HA6.out.1 (by rw [List.length_append, HL.out]; rfl), HA6.out.2, fun g o _ e => by injection e with e; injection e with e _; subst e; exact (HA6.out.1.lt _ rfl).1⟩
  · obtain ⟨m, rfl⟩ : ∃ m, N = m + 1 := ⟨N - 1, by omega⟩
    have e0 : IntKind.i64.wrap (((m + 1 : Nat) : Int) - 1) = (m : Int) := by rw [IntKind.wrap_i64]; omega
    have e5 : IntKind.i64.wrap ((m : Int) + 1 - 1) = (m : Int) := by rw [IntKind.wrap_i64]; omega
    have e7 : IntKind.i64.wrap (m : Int) = (m : Int) := by rw [IntKind.wrap_i64]; omega
    have e2 : (0 : Int) ≤ (m : Int) := by omega
    have e3 : (m : Int) < ((m + 1 : Nat) : Int) := by omega
    have e4 : (m : Int) < (m : Int) + 1 := by omega
    obtain ⟨g1, cur, rfl, HBK⟩ : ∃ g1 cur, A1 = some ⟨g1, 0, none⟩ ∧ Hid (Blk W1 g1 47 cur ∧ w.heap.size ≤ g1) := by
      rcases HO1.out.2 with ⟨h2, h3⟩ | ⟨g, cap, cur, hv, hg, hh, _⟩
      · omega
      · injection hv with e1 _ _
        exact ⟨g, cur, e1, Lib.hid ⟨hh, hg⟩⟩
    obtain ⟨g', off', e, c0, c1', c2⟩ := HR1.out m (by rw [HL.out]; omega)
    obtain ⟨rfl, rfl⟩ : g1 = g' ∧ 0 = off' := by injection e with e; injection e with e1 e2; exact ⟨e1, e2⟩
    simp only [Nat.zero_add] at c0 c1' c2
    have hx := hL _ (egetD_mem (L := L) (j := m) (by omega))
    have HW : Hid (ewith L a b t = if (L.getD m default).s = t ∧ (L.getD m default).f + (L.getD m default).n = a then L.set m ⟨(L.getD m default).f, b - (L.getD m default).f, (L.getD m default).s⟩ else L ++ [⟨a, b - a, t⟩]) := Lib.hid (by
      unfold ewith
      rw [hl, Nat.add_sub_cancel]
      by_cases h : (L.getD m default).s = t ∧ (L.getD m default).f + (L.getD m default).n = a
      · rw [if_pos ⟨by omega, h⟩, if_pos h]
      · rw [if_neg (fun k => h k.2), if_neg h])
    have HST : Hid (∀ W2 : World, Blk W2 g1 47 cur → ER W2 (some ⟨g1, 0, none⟩) L → ER (W2.setCell ⟨g1, m * 3 + 1, none⟩ (.int .u64 (b - (L.getD m default).f))) (some ⟨g1, 0, none⟩) (L.set m ⟨(L.getD m default).f, b - (L.getD m default).f, (L.getD m default).s⟩)) := Lib.hid (fun W2 h1 h2 => h2.setn h1 m _)
    have HF1 : Hid (W1.frozen? ⟨g1, m * 3 + 1, none⟩ = false) := Lib.hid (HBK.out.1.frozen _)
    clear hl hL e
    generalize L.getD m default = x at *
    obtain ⟨xf, xn, xs⟩ := x
    simp only at c0 c1' c2 hx
    have e8 : IntKind.u64.wrap (xf + xn) = xf + xn := by rw [IntKind.wrap_u64]; omega
    have e9 : IntKind.u64.wrap (b - xf) = b - xf := by rw [IntKind.wrap_u64]; omega
    by_cases h1 : xs = t
    · have f0 : (xs == t) = true := by simpa using h1
      by_cases h2 : xf + xn = a
      · have HW2 : Hid (ewith L a b t = L.set m ⟨xf, b - xf, xs⟩) := Lib.hid (by rw [HW.out, if_pos ⟨h1, h2⟩])
        have HWL : Hid ((ewith L a b t).length = m + 1) := Lib.hid (by rw [HW2.out, List.length_set, HL.out])
        have f1 : (xf + xn == a) = true := by simpa using h2
        clear h1 h2 HW
        go_enter Try.func47, Try.ntmps47
        go_upto_region 4 with (at_builtin; refine Lib.wpList_append_run _ rfl _ _ 22 22 rfl (.slice (some ⟨w.heap.size, 0, none⟩) 0 0) (.slice A (m + 1) c) rfl rfl _ _ hr1 ?_; clear hr1)
        go_quiet (fail)
        have p1 : (W1.drewN nq).frozen? ⟨g1, m * 3 + 1, none⟩ = false := HF1.out
        go_wp2_with fail
        go_ret
        exact ⟨some ⟨g1, 0, none⟩, c1, by rw [HWL.out]; rfl, by rw [HW2.out]; exact HST.out (W1.drewN nq) HBK.out.1 HR1.out, (bdn' HB1.out _).setCell (p := ⟨g1, m * 3 + 1, none⟩) HBK.out.2 _, fun g o _ e => by injection e with e; injection e with e _; subst e; exact HBK.out.2⟩
      · have HW2 : Hid (ewith L a b t = L ++ [⟨a, b - a, t⟩]) := Lib.hid (by rw [HW.out, if_neg (fun k => h2 k.2)])
        have HWL : Hid ((ewith L a b t).length = m + 1 + 1) := Lib.hid (by rw [HW2.out, List.length_append, HL.out]; rfl)
        have f1 : (xf + xn == a) = false := by simpa using h2
        clear h1 h2 HW
        have HW := HW2
        go_enter Try.func47, Try.ntmps47
        go_upto_region 4 with (at_builtin; refine Lib.wpList_append_run _ rfl _ _ 22 22 rfl (.slice (some ⟨w.heap.size, 0, none⟩) 0 0) (.slice A (m + 1) c) rfl rfl _ _ hr1 ?_; clear hr1)
        go_quiet (fail)
        generalize hW2 : W1.drewN nq = W2
        have HO2 : Hid (W2.ownsRow w.heap.size 47 3 (.slice (some ⟨g1, 0, none⟩) (m + 1) c1) (m + 1) (rcells L)) := Lib.hid (by rw [← hW2]; exact HO1.out)
        have HB2 : Hid (Below w.heap.size w W2) := Lib.hid (by rw [← hW2]; exact bdn' HB1.out _)
        clear hW2 c0 c1' c2
        have ho2 := own_alloc HO2.out (.cells #[.int .u64 a, .int .u64 (b - a), .int .i64 t] 47)
        have hnews : ∀ (j : Nat) (u : Value), ([.int .u64 a, .int .u64 (b - a), .int .i64 t] : List Value)[j]? = some u → (W2.alloc (.cells #[.int .u64 a, .int .u64 (b - a), .int .i64 t] 47)).cell? ((⟨W2.heap.size, 0, none⟩ : Addr).add j) = some u := news_new W2 [.int .u64 a, .int .u64 (b - a), .int .i64 t] 47
        have hsz : w.heap.size ≤ (W2.alloc (.cells #[.int .u64 a, .int .u64 (b - a), .int .i64 t] 47)).heap.size := (ba HB2.out _).size
        go_wp2_with (at_builtin; refine wpList_append_own_at _ rfl _ _ 22 rfl w.heap.size 47 i0 (.agg #[.int .u64 0, .int .u64 0, .int .i64 0]) 3 24 Try.underlying22 hi0 hz0 hz1 hz2 rfl (by decide) _ _ _ rfl ho2 ⟨W2.heap.size, 0, none⟩ 1 1 [.int .u64 a, .int .u64 (b - a), .int .i64 t] rfl rfl hnews (by simp [Value.oneCell']) (by unfold maxLen; omega) (by omega) hsz ?_; intro v6 w6 ho6 hg6 _ _; obtain ⟨g6, c6, rfl⟩ := ownsRow_succ ho6; have HA6 : Hid (w6.ownsRow w.heap.size 47 3 (.slice (some ⟨g6, 0, none⟩) ((m + 1) + 1) c6) ((m + 1) + 1) (rcells (L ++ [⟨a, b - a, t⟩])) ∧ Below w.heap.size w w6) := Lib.hid ⟨by rw [rcells_snoc]; exact ho6, (ba HB2.out _).grown hg6 hsz (fun q e => (ho2.lt q e).1)⟩; clear ho6 hg6 ho2 hnews)
        go_ret
        exact ⟨some ⟨g6, 0, none⟩, c6, by rw [HWL.out]; rfl, by rw [HW.out]; exact own_ER HA6.out.1 (by rw [List.length_append, HL.out]; rfl), HA6.out.2, fun g o _ e => by injection e with e; injection e with e _; subst e; exact (HA6.out.1.lt _ rfl).1⟩
    · have HW2 : Hid (ewith L a b t = L ++ [⟨a, b - a, t⟩]) := Lib.hid (by rw [HW.out, if_neg (fun k => h1 k.1)])
      have HWL : Hid ((ewith L a b t).length = m + 1 + 1) := Lib.hid (by rw [HW2.out, List.length_append, HL.out]; rfl)
      have f1 : (xs == t) = false := by simpa using h1
      clear h1 HW
      have HW := HW2
      go_enter Try.func47, Try.ntmps47
      go_upto_region 4 with (at_builtin; refine Lib.wpList_append_run _ rfl _ _ 22 22 rfl (.slice (some ⟨w.heap.size, 0, none⟩) 0 0) (.slice A (m + 1) c) rfl rfl _ _ hr1 ?_; clear hr1)
      go_quiet (fail)
      generalize hW2 : W1.drewN nq = W2
      have HO2 : Hid (W2.ownsRow w.heap.size 47 3 (.slice (some ⟨g1, 0, none⟩) (m + 1) c1) (m + 1) (rcells L)) := Lib.hid (by rw [← hW2]; exact HO1.out)
      have HB2 : Hid (Below w.heap.size w W2) := Lib.hid (by rw [← hW2]; exact bdn' HB1.out _)
      clear hW2 c0 c1' c2
      have ho2 := own_alloc HO2.out (.cells #[.int .u64 a, .int .u64 (b - a), .int .i64 t] 47)
      have hnews : ∀ (j : Nat) (u : Value), ([.int .u64 a, .int .u64 (b - a), .int .i64 t] : List Value)[j]? = some u → (W2.alloc (.cells #[.int .u64 a, .int .u64 (b - a), .int .i64 t] 47)).cell? ((⟨W2.heap.size, 0, none⟩ : Addr).add j) = some u := news_new W2 [.int .u64 a, .int .u64 (b - a), .int .i64 t] 47
      have hsz : w.heap.size ≤ (W2.alloc (.cells #[.int .u64 a, .int .u64 (b - a), .int .i64 t] 47)).heap.size := (ba HB2.out _).size
      go_wp2_with (at_builtin; refine wpList_append_own_at _ rfl _ _ 22 rfl w.heap.size 47 i0 (.agg #[.int .u64 0, .int .u64 0, .int .i64 0]) 3 24 Try.underlying22 hi0 hz0 hz1 hz2 rfl (by decide) _ _ _ rfl ho2 ⟨W2.heap.size, 0, none⟩ 1 1 [.int .u64 a, .int .u64 (b - a), .int .i64 t] rfl rfl hnews (by simp [Value.oneCell']) (by unfold maxLen; omega) (by omega) hsz ?_; intro v6 w6 ho6 hg6 _ _; obtain ⟨g6, c6, rfl⟩ := ownsRow_succ ho6; have HA6 : Hid (w6.ownsRow w.heap.size 47 3 (.slice (some ⟨g6, 0, none⟩) ((m + 1) + 1) c6) ((m + 1) + 1) (rcells (L ++ [⟨a, b - a, t⟩])) ∧ Below w.heap.size w w6) := Lib.hid ⟨by rw [rcells_snoc]; exact ho6, (ba HB2.out _).grown hg6 hsz (fun q e => (ho2.lt q e).1)⟩; clear ho6 hg6 ho2 hnews)
      go_ret
      exact ⟨some ⟨g6, 0, none⟩, c6, by rw [HWL.out]; rfl, by rw [HW.out]; exact own_ER HA6.out.1 (by rw [List.length_append, HL.out]; rfl), HA6.out.2, fun g o _ e => by injection e with e; injection e with e _; subst e; exact (HA6.out.1.lt _ rfl).1⟩
end Go.Proofs.Ythimnpiiehggnaa
