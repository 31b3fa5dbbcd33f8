/- The contracts of Crash and Barrier. -/
import Derived.Test.YtiibgbdhbamajaaDKept
import Derived.Test.YtiibgbdhbamajaaDRight
import Derived.Test.YtiibgbdhbamajaaDClone
import Derived.Laws.ResultCell
namespace Go.Proofs.Ytiibgbdhbamajaa
open Go.RowKit Go.Shelf
attribute [local go_sem] Oper.semAt_some

theorem keeps_below {W W' : World} (h : Below W.heap.size W W') : KeepsOthers W W' := ⟨h.size, fun k _ hk _ => (h.block k (Array.getElem?_eq_some_iff.1 hk).1).trans hk⟩
theorem own_base {W : World} {base base' : Nat} {e : TypeId} {size : Nat} {v : Value} {n : Nat} {xs : List Value} (h : W.ownsRow base e size v n xs) (hb : base' ≤ base) : W.ownsRow base' e size v n xs := by
  obtain ⟨h1, h2⟩ := h
  refine ⟨h1, ?_⟩
  rcases h2 with h2 | ⟨g, cap, cur, hv, hg, r⟩
  · exact Or.inl h2
  · exact Or.inr ⟨g, cap, cur, hv, Nat.le_trans hb hg, r⟩
/-- The two cells of a device's block. -/
theorem dcells {W : World} {g : Nat} {x y : Value} (h : Blk W g 25 #[x, y]) : W.cell? ⟨g, 0, none⟩ = some x ∧ W.cell? ⟨g, 1, none⟩ = some y ∧ W.frozen? ⟨g, 0, none⟩ = false ∧ W.frozen? ⟨g, 1, none⟩ = false := ⟨h.cell 0, h.cell 1, h.frozen 0, h.frozen 1⟩

/-- What a device and an error are handed back as. -/
theorem dev_result {fn : Func} {p u : Tmp} {tmps : Array Value} {W : World} {g : Nat} {x y z : Value} (h : fn.results = #[.cell p 25, .tmp u]) (hb : Blk W g 25 #[x, y]) (hp : tmps.getD p undef = .pointer (some ⟨g, 0, none⟩) := by rfl) (hu : tmps.getD u undef = z := by rfl) :
    (results fn tmps).run Try.prog W = .ok (.tuple #[.agg #[x, y], z]) W := by
  obtain ⟨q0, q1, _, _⟩ := dcells hb
  rw [results_cell_tmp h, hp, hu]
  go_simp

set_option maxRecDepth 100000 in
set_option maxHeartbeats 4000000 in
theorem crash_no (A B : Option Addr) (c d n m : Nat) (S : List (List UInt8)) (C : List PutL) (K : Nat) (w : World) (hA : SR w A S) (hB : PR w B C) (hn : S.length = n) (hm : C.length = m) (hr : rightB S C = false) :
    Calls Try.prog 20 #[dv A n c B m d, .int .u64 (K : Int)] w fun e w' => e = .returned (.tuple #[dv none 0 0 none 0 0, .int .i64 1]) ∧ Below w.heap.size w w' := by
  have HR := Lib.hid (fun W (hb : Below w.heap.size w W) => right_any A B c d n m S C W (hA.later hb) (hB.later hb) hn hm)
  rw [hr] at HR
  clear hA hB hn hm hr
  have hB0 : Below w.heap.size w ((w.alloc (.cells #[.slice A n c, .slice B m d] 25)).alloc (.cells #[.slice none 0 0, .slice none 0 0] 25)) := ba (ba (Below.refl _ _) _) _
  have k1 : Blk ((w.alloc (.cells #[.slice A n c, .slice B m d] 25)).alloc (.cells #[.slice none 0 0, .slice none 0 0] 25)) (w.heap.size + 1) 25 #[.slice none 0 0, .slice none 0 0] := Blk.newAt (by simp) _ _
  go_enter Try.func20, Try.ntmps20
  go_wp2_with fail
  refine (HR.out _ hB0).mono ?_
  rintro e w1 ⟨rfl, hb1⟩
  have kk := k1.below hb1
  obtain ⟨q0, q1, q2, q3⟩ := dcells kk
  go_wp2_with fail
  have KK := (kk.set_ 0 (.slice none 0 0)).set_ 1 (.slice none 0 0)
  refine bodyPost_ret (dev_result rfl KK) rfl ?_
  exact ⟨rfl, bs (bs (bt hB0 hb1) (by omega) _) (by omega) _⟩

/-- A row of texts that the call made, as it stands in its block. -/
def RowS (W : World) (g n c : Nat) (T : List (List UInt8)) : Prop := ∃ cur : Array Value, Blk W g 9 cur ∧ cur.size = c * 1 ∧ n ≤ c ∧ c ≤ maxLen ∧ cur.toList.take (n * 1) = T.map sv ∧ T.length = n
theorem RowS.of_own {W : World} {base n c : Nat} {A : Option Addr} {T : List (List UInt8)} (h : W.ownsRow base 9 1 (.slice A n c) n (T.map sv)) (hn : 1 ≤ n) (ht : T.length = n) : ∃ g, A = some ⟨g, 0, none⟩ ∧ base ≤ g ∧ RowS W g n c T := by
  rcases h.2 with ⟨_, h2⟩ | ⟨g, cap, cur, hv, hg, hh, h3, h4, h5, h6⟩
  · omega
  · injection hv with e1 e2 e3
    subst e1 e3
    exact ⟨g, rfl, hg, cur, hh, h5, h3, h4, h6, ht⟩
theorem RowS.own {W : World} {base g n c : Nat} {T : List (List UInt8)} (h : RowS W g n c T) (hg : base ≤ g) : W.ownsRow base 9 1 (.slice (some ⟨g, 0, none⟩) n c) n (T.map sv) := by
  obtain ⟨cur, h1, h2, h3, h4, h5, h6⟩ := h
  exact ⟨by simp [h6], .inr ⟨g, c, cur, rfl, hg, h1, h3, h4, h2, h5⟩⟩
theorem RowS.below {W W' : World} {g n c : Nat} {T : List (List UInt8)} (h : RowS W g n c T) (hb : Below W.heap.size W W') : RowS W' g n c T := by
  obtain ⟨cur, h1, h2⟩ := h
  exact ⟨cur, h1.below hb, h2⟩
theorem RowS.kept {B : Nat} {W W' : World} {row : Option Nat} {g n c : Nat} {T : List (List UInt8)} (h : RowS W g n c T) (hg : W.grownBy W' row) (hr : RowN B W row) : RowS W' g n c T := by
  obtain ⟨cur, h1, h2⟩ := h
  exact ⟨cur, hr.blk hg h1, h2⟩
theorem RowS.lt {W : World} {g n c : Nat} {T : List (List UInt8)} (h : RowS W g n c T) : g < W.heap.size := by
  obtain ⟨cur, h1, _⟩ := h
  exact h1.lt
theorem RowS.cell {W : World} {g n c : Nat} {T : List (List UInt8)} (h : RowS W g n c T) (k : Nat) (hk : k < n) : W.cell? ⟨g, k, none⟩ = some (sv (T.getD k [])) ∧ W.frozen? ⟨g, k, none⟩ = false := by
  obtain ⟨cur, h1, h2, h3, h4, h5, h6⟩ := h
  refine ⟨?_, h1.frozen k⟩
  rw [h1.cell k, ← svs_at T k (by omega), ← h5, List.getElem?_take, if_pos (by omega)]
  simp
theorem RowS.set_ {W : World} {g n c : Nat} {T : List (List UInt8)} (h : RowS W g n c T) (k : Nat) (x : List UInt8) : RowS (W.setCell ⟨g, k, none⟩ (sv x)) g n c (T.set k x) := by
  obtain ⟨cur, h1, h2, h3, h4, h5, h6⟩ := h
  refine ⟨cur.setIfInBounds k (sv x), h1.set_ k _, by simpa using h2, h3, h4, ?_, by simpa using h6⟩
  rw [Array.toList_setIfInBounds, List.take_set, h5, List.map_set]
theorem RowS.far {W : World} {g n c : Nat} {T : List (List UInt8)} (h : RowS W g n c T) {p : Addr} (hp : g ≠ p.block) (u : Value) : RowS (W.setCell p u) g n c T := by
  obtain ⟨cur, h1, h2⟩ := h
  exact ⟨cur, h1.far hp u, h2⟩
theorem RowS.store {W : World} {g n c k : Nat} {T : List (List UInt8)} {n₀ : Nat} (h : RowS W g n c T) (hn : n₀ ≤ g) (x : List UInt8) : KpN n₀ W (W.setCell ⟨g, k, none⟩ (sv x)) := by
  obtain ⟨cur, h1, _⟩ := h
  exact KpN.set_ h1 hn k _
theorem RowS.putObj {W : World} {g n c D : Nat} {T : List (List UInt8)} {o o' : Obj} (h : RowS W g n c T) (hD : W.heap[D]? = some o) (ho : o.isCells = false) : RowS (W.putObj D o') g n c T := by
  obtain ⟨cur, h1, h2⟩ := h
  refine ⟨cur, (World.putObj_heap_other (fun e => ?_)).trans h1, h2⟩
  subst e
  rw [show W.heap[g]? = _ from h1] at hD
  cases hD; cases ho

/-- Between two rounds. -/
def CrashI (w : World) (G g n c : Nat) (S : List (List UInt8)) (pre : List PutL) (W : World) : Prop :=
  (Hid (Blk W (w.heap.size + 1) 25 #[.slice none 0 0, .slice none 0 0]) ∧ Hid (Blk W G 22 #[.slice (some ⟨g, 0, none⟩) n c]) ∧ Hid (RowS W g n c (storeD S pre))) ∧ Hid (Below w.heap.size w W)
theorem CrashI_kept (w : World) (G g n c : Nat) (S : List (List UInt8)) {B : Nat} (hB : w.heap.size ≤ B) : KeptN B (CrashI w G g n c S) := by
  rintro s W W' row ⟨⟨h1, h2, h3⟩, h6⟩ hg hr
  exact ⟨⟨Lib.hid (hr.blk hg h1.out), Lib.hid (hr.blk hg h2.out), Lib.hid (h3.out.kept hg hr)⟩, Lib.hid (h6.out.grown hg h6.out.size (fun k e => Nat.le_trans hB (hr k e).1))⟩

set_option maxRecDepth 100000 in
set_option maxHeartbeats 4000000 in
theorem crash_yes (A B : Option Addr) (c d n m : Nat) (S : List (List UInt8)) (C : List PutL) (K : Nat) (w : World) (hA : SR w A S) (hB : PR w B C) (hn : S.length = n) (hm : C.length = m) (hr : rightB S C = true) (hK : K < 18446744073709551616) :
    Calls Try.prog 20 #[dv A n c B m d, .int .u64 (K : Int)] w fun e w' => ∃ A' c', e = .returned (.tuple #[dv A' n c' none 0 0, .int .i64 0]) ∧ w'.ownsRow w.heap.size 9 1 (.slice A' n c') n ((storeD S (keptD K C)).map sv) ∧ Below w.heap.size w w' := by
  obtain ⟨s1, s2, s3, _, s4⟩ := rightB_yes hr
  obtain ⟨zs, hzs⟩ : ∃ zs, keptD K C = zs := ⟨_, rfl⟩
  have HX : Hid (∀ x ∈ zs, 0 ≤ x.1 ∧ x.1 < (n : Int)) := Lib.hid fun x hx => by
    rw [← hzs] at hx
    have := s4 x (keptD_in C K x hx)
    rw [hn] at this
    exact ⟨this.1, this.2.1⟩
  rw [hzs]
  have HZS := Lib.hid hzs
  clear hzs
  rw [hn] at s1 s2
  clear s4
  rw [hm] at s3
  have h0 : A = none → c = 0 := fun e => by
    obtain ⟨g, off, e', _⟩ := hA 0 (by omega)
    rw [e] at e'; cases e'
  have HR := Lib.hid (fun W (hb : Below w.heap.size w W) => right_any A B c d n m S C W (hA.later hb) (hB.later hb) hn hm)
  rw [hr] at HR
  have HC := Lib.hid (fun W (hb : Below w.heap.size w W) => cls_any A c n S W (hA.later hb) hn h0 (by omega))
  have hB0 : Below w.heap.size w ((w.alloc (.cells #[.slice A n c, .slice B m d] 25)).alloc (.cells #[.slice none 0 0, .slice none 0 0] 25)) := ba (ba (Below.refl _ _) _) _
  have k0 : Blk ((w.alloc (.cells #[.slice A n c, .slice B m d] 25)).alloc (.cells #[.slice none 0 0, .slice none 0 0] 25)) w.heap.size 25 #[.slice A n c, .slice B m d] := (Blk.new w _ _).alloc _
  have k1 : Blk ((w.alloc (.cells #[.slice A n c, .slice B m d] 25)).alloc (.cells #[.slice none 0 0, .slice none 0 0] 25)) (w.heap.size + 1) 25 #[.slice none 0 0, .slice none 0 0] := Blk.newAt (by simp) _ _
  refine (callsIn_wide (n := 6)).1 ?_
  refine callsIn_of_wp_marks Try.func20 rfl trivial ?_ rfl
  simp only [Try.ntmps20, List.size_toArray, List.length_cons, List.length_nil, Nat.reduceAdd, Nat.reduceSub, Array.replicate_succ, Array.replicate_zero, List.push_toArray, List.append_toArray, List.nil_append, List.cons_append]
  gi_wp2_with fail
  refine ⟨trivial, ?_⟩
  refine (callsIn_wide.2 (HR.out _ hB0)).mono ?_
  rintro e w1 ⟨rfl, hb1⟩
  have K0 := Lib.hid (k0.below hb1)
  have K1 := Lib.hid (k1.below hb1)
  have HB1 := Lib.hid (bt hB0 hb1)
  have z1 : w.heap.size + 2 ≤ w1.heap.size := by have := hb1.size; simpa using this
  clear k0 k1 hB0 hb1
  obtain ⟨q0, q1, _, _⟩ := dcells K0.out
  gi_wp2_with fail
  refine ⟨trivial, ?_⟩
  refine (callsIn_wide.2 (HC.out _ HB1.out)).mono ?_
  rintro e w2 ⟨A2, c2, rfl, hown, hb2⟩
  obtain ⟨g, rfl, hg, hrow⟩ := RowS.of_own hown s1 hn
  have K2 := Lib.hid (K0.out.below hb2)
  have K3 := Lib.hid (K1.out.below hb2)
  have HB2 := Lib.hid (bt HB1.out hb2)
  have z2 := hb2.size
  have z3 := hrow.lt
  have HROW := Lib.hid hrow
  obtain ⟨q2, q3, _, _⟩ := dcells (K2.out.alloc (.cells #[.slice (some ⟨g, 0, none⟩) n c2] 22))
  clear hb2 hown hrow K0 K1 HB1 q0 q1
  gi_wp2_with fail
  refine ⟨trivial, ?_⟩
  refine (callsIn_wide.2 (kept_any B m d K _)).mono ?_
  rintro e w3 ⟨rfl, rfl⟩
  simp only [World.size_alloc]
  have K4 : Hid (Blk (((w2.alloc (.cells #[.slice (some ⟨g, 0, none⟩) n c2] 22)).alloc (.cells #[.slice B m d] 23)).alloc (.cells #[.int .u64 (K : Int)] 41)) (w.heap.size + 1) 25 #[.slice none 0 0, .slice none 0 0]) := Lib.hid (((K3.out.alloc _).alloc _).alloc _)
  have K5 : Hid (Blk (((w2.alloc (.cells #[.slice (some ⟨g, 0, none⟩) n c2] 22)).alloc (.cells #[.slice B m d] 23)).alloc (.cells #[.int .u64 (K : Int)] 41)) w2.heap.size 22 #[.slice (some ⟨g, 0, none⟩) n c2]) := Lib.hid (((Blk.new w2 _ _).alloc _).alloc _)
  have K6 : Hid (RowS (((w2.alloc (.cells #[.slice (some ⟨g, 0, none⟩) n c2] 22)).alloc (.cells #[.slice B m d] 23)).alloc (.cells #[.int .u64 (K : Int)] 41)) g n c2 (storeD S [])) := Lib.hid (by rw [storeD_none]; exact HROW.out.below (ba (ba (ba (Below.refl _ _) _) _) _))
  have K7 : Boxed (((w2.alloc (.cells #[.slice (some ⟨g, 0, none⟩) n c2] 22)).alloc (.cells #[.slice B m d] 23)).alloc (.cells #[.int .u64 (K : Int)] 41)) (w2.heap.size + 1) 23 (.slice B m d) := (Blk.newAt (by simp) _ _).alloc _
  have K8 : Boxed (((w2.alloc (.cells #[.slice (some ⟨g, 0, none⟩) n c2] 22)).alloc (.cells #[.slice B m d] 23)).alloc (.cells #[.int .u64 (K : Int)] 41)) (w2.heap.size + 2) 41 (.int .u64 (K : Int)) := Blk.newAt (by simp) _ _
  have HB3 : Hid (Below w.heap.size w (((w2.alloc (.cells #[.slice (some ⟨g, 0, none⟩) n c2] 22)).alloc (.cells #[.slice B m d] 23)).alloc (.cells #[.int .u64 (K : Int)] 41))) := Lib.hid (ba (ba (ba HB2.out _) _) _)
  have z4 : (((w2.alloc (.cells #[.slice (some ⟨g, 0, none⟩) n c2] 22)).alloc (.cells #[.slice B m d] 23)).alloc (.cells #[.int .u64 (K : Int)] 41)).heap.size = w2.heap.size + 3 := by simp
  generalize (((w2.alloc (.cells #[.slice (some ⟨g, 0, none⟩) n c2] 22)).alloc (.cells #[.slice B m d] 23)).alloc (.cells #[.int .u64 (K : Int)] 41)) = W0 at K4 K5 K6 K7 K8 HB3 z4 ⊢
  clear q2 q3 K2 K3
  have eg : ∀ args w, (callFunc 31 args).run Try.prog w = .ok (.enter 31 args) w := enters_of Try.func31 (by kernel_rfl) rfl
  have HHA := kept_hands 5 (by omega) (w2.heap.size + 1) (w2.heap.size + 2) m d B C K w W0 hB hm s3 hK HB3.out K7 K8
  rw [HZS.out] at HHA
  clear hA hB hn hm hr HR HC h0 HROW HZS
  gi_wp2_with fail
  refine range_new (e1 := p1) (e2 := p2) (n := 6) (w0 := W0) (by omega) (gf := 31) (lb := #[.pointer (some ⟨w2.heap.size + 1, 0, none⟩), .pointer (some ⟨w2.heap.size + 2, 0, none⟩)]) rfl eg (n₀ := w.heap.size) (by omega) HHA (Below.refl _ _) (CrashI w w2.heap.size g n c2 S) (fun _ _ _ => False) (CrashI_kept w _ _ _ _ _ (by omega)) (fun _ _ _ _ _ h => h.elim) ⟨⟨K4, K5, K6⟩, HB3⟩
    (fun x a' W => a' = { tmps := #[dv A n c B m d, .int .u64 (K : Int), .pointer (some ⟨w.heap.size, 0, none⟩), undef, .pointer (some ⟨w.heap.size + 1, 0, none⟩), .int .i64 0, .pointer (some ⟨w2.heap.size, 0, none⟩), .int .i64 x.1, sv x.2, dv A n c B m d, .bool true, .bool false, undef, .pointer (some ⟨w.heap.size, 0, none⟩), .slice A n c, .slice (some ⟨g, 0, none⟩) n c2, .pointer (some ⟨w.heap.size, 1, none⟩), .slice B m d, .int .u64 (K : Int), .func (.func 31) #[] #[.pointer (some ⟨w2.heap.size + 1, 0, none⟩), .pointer (some ⟨w2.heap.size + 2, 0, none⟩)], .int .i64 x.1, sv x.2, undef, undef, undef, undef, undef, undef], defers := [] })
    (fun x a' Y l o o' hs hl ho hc => hs)
    ?assign ?body ?done ?stop
  case assign =>
    rintro l pre x W Kc hI hKc
    gi_wp2
    exact hKc _ _ (KeepsFrom.refl _ _) (KpN.refl _ _) hI rfl
  case body =>
    rintro l pre x a' W hl ⟨⟨h1, h2, h3⟩, hB1⟩ rfl hpre
    obtain ⟨x0, x1⟩ := HX.out x (hpre.subset (by simp))
    have HM := Lib.hid (storeD_more S pre x x0)
    obtain ⟨xk, xs⟩ := x
    simp only at x0 x1
    obtain ⟨k, rfl⟩ : ∃ k : Nat, xk = (k : Int) := ⟨xk.toNat, by omega⟩
    have hk : k < n := by omega
    have HS := Lib.hid (h3.out.set_ k xs)
    have HST : Hid (KpN w.heap.size W (W.setCell ⟨g, k, none⟩ (sv xs))) := Lib.hid (h3.out.store (by omega) xs)
    obtain ⟨c3, f3⟩ := h3.out.cell k hk
    have c2' := h2.out.cell 0
    have hlt := h3.out.lt
    simp only [List.getElem?_toArray, List.getElem?_cons_zero] at c2'
    clear hpre K4 K5 K6 K7 K8
    gi_wp2
    have HR2 : Hid (RowS (W.setCell ⟨g, k, none⟩ (sv xs)) g n c2 (storeD S (pre ++ [((k : Int), xs)]))) := Lib.hid (by rw [HM.out]; exact HS.out)
    exact ⟨(KeepsOthers.setCell _ _ _).from _, HST.out, ⟨Lib.hid (h1.out.far (by simp; omega) _), Lib.hid (h2.out.far (by simp; omega) _), HR2⟩, Lib.hid (bs hB1.out (by omega) _)⟩
  case done =>
    rintro D W hD ⟨⟨h1, h2, h3⟩, hB1⟩ hKd
    obtain ⟨q0, q1, q2, q3⟩ := dcells h1.out
    have c2' := h2.out.cell 0
    simp only [List.getElem?_toArray, List.getElem?_cons_zero] at c2'
    gi_wp2
    have KK := (h1.out.set_ 0 (.slice (some ⟨g, 0, none⟩) n c2)).set_ 1 (.slice none 0 0)
    have R2 := (h3.out.far (p := ⟨w.heap.size + 1, 0, none⟩) (by simp; omega) (.slice (some ⟨g, 0, none⟩) n c2)).far (p := ⟨w.heap.size + 1, 1, none⟩) (by simp; omega) (.slice none 0 0)
    have B2 := bs (bs hB1.out (b := w.heap.size + 1) (o := 0) (by omega) (.slice (some ⟨g, 0, none⟩) n c2)) (b := w.heap.size + 1) (o := 1) (by omega) (.slice none 0 0)
    have hKn := (Below.heap_setCell (W.setCell ⟨w.heap.size + 1, 0, none⟩ (.slice (some ⟨g, 0, none⟩) n c2)) ⟨w.heap.size + 1, 1, none⟩ (.slice none 0 0) D (by simp; omega)).trans ((Below.heap_setCell W ⟨w.heap.size + 1, 0, none⟩ (.slice (some ⟨g, 0, none⟩) n c2) D (by simp; omega)).trans hKd)
    generalize (W.setCell ⟨w.heap.size + 1, 0, none⟩ (.slice (some ⟨g, 0, none⟩) n c2)).setCell ⟨w.heap.size + 1, 1, none⟩ (.slice none 0 0) = W2 at KK R2 B2 hKn ⊢
    have KK2 : Blk (W2.putObj D (.deferred none)) (w.heap.size + 1) 25 #[.slice (some ⟨g, 0, none⟩) n c2, .slice none 0 0] := (World.putObj_heap_other (by omega)).trans KK
    refine ⟨by simp, .inl ⟨_, _, rfl, run_takeDeferred hKn, ?_⟩⟩
    refine ⟨.tuple #[dv (some ⟨g, 0, none⟩) n c2 none 0 0, .int .i64 0], dev_result rfl KK2, _, _, rfl, (R2.putObj hKn rfl).own (by omega), ?_⟩
    exact B2.grown (grownBy_putObj' W2 D _) B2.size (fun k e => by cases e; omega)
  case stop =>
    rintro D c pre W hD hp h
    exact h.elim

set_option maxRecDepth 100000 in
set_option maxHeartbeats 2000000 in
theorem barrier_no (A B : Option Addr) (c d n m : Nat) (S : List (List UInt8)) (C : List PutL) (w : World) (hA : SR w A S) (hB : PR w B C) (hn : S.length = n) (hm : C.length = m) (hr : rightB S C = false) :
    Calls Try.prog 19 #[dv A n c B m d] w fun e w' => e = .returned (.tuple #[dv none 0 0 none 0 0, .int .i64 1]) ∧ Below w.heap.size w w' := by
  have HR : Hid (∀ W, Below w.heap.size w W → Calls Try.prog 20 #[dv A n c B m d, .int .u64 18446744073709551615] W fun e w' => e = .returned (.tuple #[dv none 0 0 none 0 0, .int .i64 1]) ∧ Below W.heap.size W w') := Lib.hid (fun W hb => crash_no A B c d n m S C 18446744073709551615 W (hA.later hb) (hB.later hb) hn hm hr)
  clear hA hB hn hm hr
  have hB0 : Below w.heap.size w ((w.alloc (.cells #[.slice A n c, .slice B m d] 25)).alloc (.cells #[.slice none 0 0, .slice none 0 0] 25)) := ba (ba (Below.refl _ _) _) _
  have k1 : Blk ((w.alloc (.cells #[.slice A n c, .slice B m d] 25)).alloc (.cells #[.slice none 0 0, .slice none 0 0] 25)) (w.heap.size + 1) 25 #[.slice none 0 0, .slice none 0 0] := Blk.newAt (by simp) _ _
  go_enter Try.func19, Try.ntmps19
  go_wp2_with fail
  refine (HR.out _ hB0).mono ?_
  rintro e w1 ⟨rfl, hb1⟩
  have kk := k1.below hb1
  obtain ⟨q0, q1, q2, q3⟩ := dcells kk
  go_wp2_with fail
  have KK := (kk.set_ 0 (.slice none 0 0)).set_ 1 (.slice none 0 0)
  refine bodyPost_ret (dev_result rfl KK) rfl ?_
  exact ⟨rfl, bs (bs (bt hB0 hb1) (by omega) _) (by omega) _⟩

set_option maxRecDepth 100000 in
set_option maxHeartbeats 2000000 in
theorem barrier_yes (A B : Option Addr) (c d n m : Nat) (S : List (List UInt8)) (C : List PutL) (w : World) (hA : SR w A S) (hB : PR w B C) (hn : S.length = n) (hm : C.length = m) (hr : rightB S C = true) :
    Calls Try.prog 19 #[dv A n c B m d] w fun e w' => ∃ A' c', e = .returned (.tuple #[dv A' n c' none 0 0, .int .i64 0]) ∧ w'.ownsRow w.heap.size 9 1 (.slice A' n c') n ((storeD S C).map sv) ∧ Below w.heap.size w w' := by
  have hK : keptD 18446744073709551615 C = C := keptD_all 64 C (by have := (rightB_yes hr).2.2.1; omega)
  have HR : Hid (∀ W, Below w.heap.size w W → Calls Try.prog 20 #[dv A n c B m d, .int .u64 18446744073709551615] W fun e w' => ∃ A' c', e = .returned (.tuple #[dv A' n c' none 0 0, .int .i64 0]) ∧ w'.ownsRow W.heap.size 9 1 (.slice A' n c') n ((storeD S C).map sv) ∧ Below W.heap.size W w') := Lib.hid (fun W hb => by
    have := crash_yes A B c d n m S C 18446744073709551615 W (hA.later hb) (hB.later hb) hn hm hr (by omega)
    rw [hK] at this
    exact this)
  have HL : Hid (1 ≤ n ∧ (storeD S C).length = n) := Lib.hid ⟨by have := (rightB_yes hr).1; omega, by rw [storeD_len, hn]⟩
  generalize storeD S C = T at HR HL ⊢
  clear hA hB hn hm hr hK
  have hB0 : Below w.heap.size w ((w.alloc (.cells #[.slice A n c, .slice B m d] 25)).alloc (.cells #[.slice none 0 0, .slice none 0 0] 25)) := ba (ba (Below.refl _ _) _) _
  have k1 : Blk ((w.alloc (.cells #[.slice A n c, .slice B m d] 25)).alloc (.cells #[.slice none 0 0, .slice none 0 0] 25)) (w.heap.size + 1) 25 #[.slice none 0 0, .slice none 0 0] := Blk.newAt (by simp) _ _
  have hz : ((w.alloc (.cells #[.slice A n c, .slice B m d] 25)).alloc (.cells #[.slice none 0 0, .slice none 0 0] 25)).heap.size = w.heap.size + 2 := by simp
  go_enter Try.func19, Try.ntmps19
  go_wp2_with fail
  refine (HR.out _ hB0).mono ?_
  rintro e w1 ⟨A2, c2, rfl, hown, hb1⟩
  have kk := k1.below hb1
  obtain ⟨q0, q1, q2, q3⟩ := dcells kk
  obtain ⟨g, rfl, hg, hrow⟩ := RowS.of_own hown HL.out.1 HL.out.2
  rw [hz] at hg
  have HROW := Lib.hid hrow
  clear hown hrow hz
  go_wp2_with fail
  have KK := (kk.set_ 0 (.slice (some ⟨g, 0, none⟩) n c2)).set_ 1 (.slice none 0 0)
  refine bodyPost_ret (dev_result rfl KK) rfl ?_
  exact ⟨_, _, rfl, ((HROW.out.far (by simp; omega) _).far (by simp; omega) _).own (by omega), bs (bs (bt hB0 hb1) (by omega) _) (by omega) _⟩
end Go.Proofs.Ytiibgbdhbamajaa
