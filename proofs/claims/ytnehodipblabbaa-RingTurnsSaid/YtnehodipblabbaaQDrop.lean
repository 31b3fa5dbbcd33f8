/- The contracts of Drop. -/
import Derived.Test.YtnehodipblabbaaQPush
import Derived.Test.YtnehodipblabbaaQItems
namespace Go.Proofs.Ytnehodipblabbaa
open Go.RowKit Go.Shelf
attribute [local go_sem] Oper.semAt_some

set_option maxRecDepth 100000 in
set_option maxHeartbeats 4000000 in
theorem drop_no (A : Option Addr) (n c : Nat) (f m k : Int) (r : Bool) (ee : Int) (w : World)
    (HR : Hid (∀ W, Below w.heap.size w W → Calls Try.prog 8 #[qv A n c f m] W fun e w' => e = .returned (.bool r) ∧ Below W.heap.size W w'))
    (P : (r = false ∧ ee = 1) ∨ (r = true ∧ k < 0 ∧ ee = 2) ∨ (r = true ∧ 0 ≤ k ∧ m < k ∧ ee = 2)) :
    Calls Try.prog 14 #[qv A n c f m, .int .i64 k] w fun e w' => e = .returned (.tuple #[qv none 0 0 0 0, .int .i64 ee]) ∧ Below w.heap.size w w' := by
  have HB := Lib.hid (qtwo_below w A n c f m)
  have HK := Lib.hid (qtwo_blk w A n c f m)
  have HO := Lib.hid (qtwo_out w A n c f m)
  rcases P with ⟨rfl, rfl⟩ | ⟨rfl, p1, rfl⟩ | ⟨rfl, p1, p2, rfl⟩
  all_goals
    go_enter Try.func14, Try.ntmps14
    go_wp2_with fail
    refine (HR.out _ HB.out).mono ?_
    rintro e1 w1 ⟨rfl, hb1⟩
    have B1 := Lib.hid (bt HB.out hb1)
    have O1 := Lib.hid (HO.out.below hb1)
    obtain ⟨⟨q0, q1, q2⟩, _⟩ := qcells (HK.out.below hb1)
    obtain ⟨⟨o0, o1, o2⟩, f0, f1, f2⟩ := qcells O1.out
    clear hb1
    go_wp2
    refine bodyPost_ret (ring_result rfl (((O1.out.set_ 0 _).set_ 1 _).set_ 2 _)) rfl ?_
    exact ⟨rfl, bs (bs (bs B1.out (by omega) _) (by omega) _) (by omega) _⟩

theorem drop_bad (A : Option Addr) (n c : Nat) (f m k : Int) (L : List (List UInt8)) (w : World) (hM : QM w A n c L) (hr : qright L f m = false) :
    Calls Try.prog 14 #[qv A n c f m, .int .i64 k] w fun e w' => e = .returned (.tuple #[qv none 0 0 0 0, .int .i64 1]) ∧ Below w.heap.size w w' :=
  drop_no A n c f m k false 1 w (Lib.hid fun W hb => by have := qright_any A n c f m L W (hM.later hb); rwa [hr] at this) (.inl ⟨rfl, rfl⟩)
theorem drop_range (A : Option Addr) (n c : Nat) (f m k : Int) (L : List (List UInt8)) (w : World) (hM : QM w A n c L) (hr : qright L f m = true) (hk : ¬ (0 ≤ k ∧ k ≤ m)) :
    Calls Try.prog 14 #[qv A n c f m, .int .i64 k] w fun e w' => e = .returned (.tuple #[qv none 0 0 0 0, .int .i64 2]) ∧ Below w.heap.size w w' :=
  drop_no A n c f m k true 2 w (Lib.hid fun W hb => by have := qright_any A n c f m L W (hM.later hb); rwa [hr] at this) (by
    by_cases h : k < 0
    · exact .inr (.inl ⟨rfl, h, rfl⟩)
    · exact .inr (.inr ⟨rfl, by omega, by omega, rfl⟩))

/-- Between two rounds. -/
def DropI (w : World) (A : Option Addr) (n c f m G g c2 : Nat) (L : List (List UInt8)) (pre : List Nat) (W : World) : Prop :=
  (Hid (Blk W w.heap.size 24 (qcs A n c (f : Int) (m : Int))) ∧ Hid (Blk W (w.heap.size + 1) 24 (qcs none 0 0 0 0)) ∧ Hid (Blk W G 22 #[.slice (some ⟨g, 0, none⟩) n c2]) ∧ Hid (QS W g n c2 (qdrop L f pre.length))) ∧ Hid (Below w.heap.size w W)
theorem QS.kept {B : Nat} {W W' : World} {row : Option Nat} {g n c : Nat} {T : List (List UInt8)} (h : QS W g n c T) (hg : W.grownBy W' row) (hr : RowQ B W row) : QS W' g n c T := by
  obtain ⟨cur, h1, h2⟩ := h
  exact ⟨cur, hr.blk hg h1, h2⟩
theorem DropI_kept (w : World) (A : Option Addr) (n c f m G g c2 : Nat) (L : List (List UInt8)) {B : Nat} (hB : w.heap.size ≤ B) : KeptQ B (DropI w A n c f m G g c2 L) := by
  rintro s W W' row ⟨⟨h1, h2, h3, h4⟩, h6⟩ hg hr
  exact ⟨⟨Lib.hid (hr.blk hg h1.out), Lib.hid (hr.blk hg h2.out), Lib.hid (hr.blk hg h3.out), Lib.hid (h4.out.kept hg hr)⟩, Lib.hid (h6.out.grown hg h6.out.size (fun k e => Nat.le_trans hB (hr k e).1))⟩
/-- A post that only the plain way out meets. -/
def OnlyQ (Q : Exit → Act → World → Prop) : Exit → Act → World → Prop
  | .normal, a, w => Q .normal a w
  | _, _, _ => False
theorem wpIn_onlyQ {F : Fence} {n : Nat} {P : Program} {c : Code} {Q : Exit → Act → World → Prop} {a : Act} {w : World} (h : c.wpIn F n P (OnlyQ Q) a w) : c.wpIn F n P Q a w :=
  Code.wpIn_mono (fun e a w q => by cases e <;> first | exact q | exact q.elim) h

set_option maxRecDepth 100000 in
set_option maxHeartbeats 4000000 in
/-- Drop, of a ring that may be. -/
theorem drop_yes (A : Option Addr) (n c f m k : Nat) (L : List (List UInt8)) (w : World) (hM : QM w A n c L) (hr : QR L f m) (hk : k ≤ m) :
    Calls Try.prog 14 #[qv A n c (f : Int) (m : Int), .int .i64 (k : Int)] w fun e w' => ∃ g c', e = .returned (.tuple #[qv (some ⟨g, 0, none⟩) n c' ((qs n f k : Nat) : Int) ((m - k : Nat) : Int), .int .i64 0]) ∧ QS w' g n c' (qdrop L f k) ∧ Below w.heap.size w w' := by
  have HR : Hid (∀ W, Below w.heap.size w W → Calls Try.prog 8 #[qv A n c (f : Int) (m : Int)] W fun e w' => e = .returned (.bool true) ∧ Below W.heap.size W w') := Lib.hid fun W hb => by have := qright_any A n c f m L W (hM.later hb); rwa [qright_mk hr] at this
  have h1 := hr.lo
  have h2 := hr.hi
  have h3 := hr.start
  have h4 := hr.many
  have hl := hM.len
  have HMORE : Hid (∀ pre x, (pre ++ [x]) <+: qturn n f 0 k → x < n ∧ (qdrop L f pre.length).set x [] = qdrop L f (pre ++ [x]).length) := Lib.hid fun pre x hp => by
    obtain ⟨e1, e2, e3⟩ := qturn_at n f 0 k pre x hp
    rw [Nat.zero_add] at e3
    subst e3
    rw [← hl]
    exact ⟨qs_lt h1, by rw [qdrop_more h3 (by omega), List.length_append]; rfl⟩
  have HZ : Hid (qdrop L f 0 = L) := Lib.hid (qdrop_zero L f)
  rw [hl] at h1 h2 h3 h4
  have HC : Hid (∀ W, Below w.heap.size w W → Calls Try.prog 24 #[.slice A n c] W fun e w' => ∃ g c', e = .returned (.slice (some ⟨g, 0, none⟩) n c') ∧ W.heap.size ≤ g ∧ QS w' g n c' L ∧ Below W.heap.size W w') := Lib.hid fun W hb => by
    refine (qclone_any A c n L W (hM.row.later hb) hl hM.nil (by omega)).mono ?_
    rintro e w' ⟨A', c', rfl, hown, hb2⟩
    obtain ⟨g, rfl, hg, hrow⟩ := QS.of_own hown h1 hl
    exact ⟨g, c', rfl, hg, hrow, hb2⟩
  have HS := Lib.hid (fun W => slot_any A n c f k m W h1 (by omega) (by omega) (by omega))
  have HL := Lib.hid (qturn_len n f 0 k)
  have HB0 := Lib.hid (qtwo_below w A n c (f : Int) (m : Int))
  have HK0 := Lib.hid (qtwo_blk w A n c (f : Int) (m : Int))
  have HO0 := Lib.hid (qtwo_out w A n c (f : Int) (m : Int))
  have i1 : (k : Int) ≤ (m : Int) := by omega
  obtain ⟨p, hp⟩ : ∃ p, qs n f k = p := ⟨_, rfl⟩
  rw [hp] at HS ⊢
  obtain ⟨q, hq⟩ : ∃ q, m - k = q := ⟨_, rfl⟩
  have i2 : (m : Int) - (k : Int) = (q : Int) := by omega
  rw [hq]
  clear hM hr hp hq hl
  refine (callsIn_wide (n := 6)).1 ?_
  refine callsIn_of_wp_marks Try.func14 rfl trivial ?_ rfl
  simp only [Try.ntmps14, List.size_toArray, List.length_cons, List.length_nil, Nat.reduceAdd, Nat.reduceSub, Array.replicate_succ, Array.replicate_zero, List.push_toArray, List.append_toArray, List.nil_append, List.cons_append]
  gi_wp2_with fail
  refine ⟨trivial, ?_⟩
  refine (callsIn_wide.2 (HR.out _ HB0.out)).mono ?_
  rintro e w1 ⟨rfl, hb1⟩
  have HB1 := Lib.hid (bt HB0.out hb1)
  have HK1 := Lib.hid (HK0.out.below hb1)
  have HO1 := Lib.hid (HO0.out.below hb1)
  obtain ⟨⟨q0, q1, q2⟩, _⟩ := qcells HK1.out
  clear hb1 HR HB0 HK0 HO0
  gi_wp2_with fail
  refine ⟨trivial, ?_⟩
  refine (callsIn_wide.2 (HC.out _ HB1.out)).mono ?_
  rintro e w2 ⟨g, c2, rfl, hg, hrow, hb2⟩
  have HB2 := Lib.hid (ba (bt HB1.out hb2) (.cells #[.slice (some ⟨g, 0, none⟩) n c2] 22))
  have HK2 := Lib.hid ((HK1.out.below hb2).alloc (.cells #[.slice (some ⟨g, 0, none⟩) n c2] 22))
  have HO2 := Lib.hid ((HO1.out.below hb2).alloc (.cells #[.slice (some ⟨g, 0, none⟩) n c2] 22))
  have HG2 := Lib.hid (Blk.new w2 22 #[.slice (some ⟨g, 0, none⟩) n c2])
  have HQ2 := Lib.hid (hrow.below (ba (Below.refl w2.heap.size w2) (.cells #[.slice (some ⟨g, 0, none⟩) n c2] 22)))
  have hz : w.heap.size + 1 < w2.heap.size := (HO1.out.below hb2).lt
  have hgz : w.heap.size + 1 < g := Nat.lt_of_lt_of_le HO1.out.lt hg
  have hgl := hrow.lt
  clear hb2 hrow hg HC HB1 HK1 HO1 q0 q1 q2
  obtain ⟨⟨q0, q1, q2⟩, _⟩ := qcells HK2.out
  have z1 : (w2.alloc (.cells #[.slice (some ⟨g, 0, none⟩) n c2] 22)).heap.size = w2.heap.size + 1 := by simp
  gi_wp2_with fail
  generalize w2.alloc (.cells #[.slice (some ⟨g, 0, none⟩) n c2] 22) = v at *
  refine ⟨trivial, ?_⟩
  refine (callsIn_wide.2 (turned_any A n c f m 0 k _)).mono ?_
  rintro e w3 ⟨rfl, rfl⟩
  rw [z1]
  generalize w2.heap.size = G at HG2 hz hgl z1 ⊢
  have K0 := ((HK2.out.alloc (.cells (qcs A n c (f : Int) (m : Int)) 24)).alloc (.cells #[.int .i64 0] 3)).alloc (.cells #[.int .i64 (k : Int)] 3)
  have K1 := ((HO2.out.alloc (.cells (qcs A n c (f : Int) (m : Int)) 24)).alloc (.cells #[.int .i64 0] 3)).alloc (.cells #[.int .i64 (k : Int)] 3)
  have K5 := ((HG2.out.alloc (.cells (qcs A n c (f : Int) (m : Int)) 24)).alloc (.cells #[.int .i64 0] 3)).alloc (.cells #[.int .i64 (k : Int)] 3)
  have K6 := HQ2.out.below (ba (ba (ba (Below.refl v.heap.size v) (.cells (qcs A n c (f : Int) (m : Int)) 24)) (.cells #[.int .i64 0] 3)) (.cells #[.int .i64 (k : Int)] 3))
  have HB := ba (ba (ba HB2.out (.cells (qcs A n c (f : Int) (m : Int)) 24)) (.cells #[.int .i64 0] 3)) (.cells #[.int .i64 (k : Int)] 3)
  have k2 := ((Blk.newAt z1 24 (qcs A n c (f : Int) (m : Int))).alloc (.cells #[.int .i64 0] 3)).alloc (.cells #[.int .i64 (k : Int)] 3)
  have k3 := (Blk.newAt (w := v.alloc (.cells (qcs A n c (f : Int) (m : Int)) 24)) (g := G + 1 + 1) (by simp [z1]) 3 #[.int .i64 0]).alloc (.cells #[.int .i64 (k : Int)] 3)
  have k4 := Blk.newAt (w := (v.alloc (.cells (qcs A n c (f : Int) (m : Int)) 24)).alloc (.cells #[.int .i64 0] 3)) (g := G + 1 + 2) (by simp [z1]) 3 #[.int .i64 (k : Int)]
  have z4 : (((v.alloc (.cells (qcs A n c (f : Int) (m : Int)) 24)).alloc (.cells #[.int .i64 0] 3)).alloc (.cells #[.int .i64 (k : Int)] 3)).heap.size = G + 4 := by simp [z1]
  generalize ((v.alloc (.cells (qcs A n c (f : Int) (m : Int)) 24)).alloc (.cells #[.int .i64 0] 3)).alloc (.cells #[.int .i64 (k : Int)] 3) = W0 at *
  have eg : ∀ args w, (callFunc 27 args).run Try.prog w = .ok (.enter 27 args) w := enters_of Try.func27 (by kernel_rfl) rfl
  have HHA := turn_hands 5 (by omega) _ _ _ n c f 0 k (m : Int) A w W0 h1 (by omega) (by omega) (by omega) k3 (by rw [show 0 + k = k by omega]; exact k4) k2
  have K7 : QS W0 g n c2 (qdrop L f ([] : List Nat).length) := by rw [List.length_nil, HZ.out]; exact K6
  clear k2 k3 k4 K6 HB2 HK2 HO2 HG2 HQ2 z1 q0 q1 q2 HZ
  generalize qturn n f 0 k = zs at *
  gi_wp2_with fail
  refine range_one (e1 := qe) (n := 6) (w0 := W0) (by omega) (gf := 27) (lb := #[.pointer (some ⟨G + 1 + 1, 0, none⟩), .pointer (some ⟨G + 1 + 2, 0, none⟩), .pointer (some ⟨G + 1, 0, none⟩)]) rfl eg (n₀ := w.heap.size) (by omega) HHA (Below.refl _ _) (DropI w A n c f m G g c2 L) (fun _ _ _ => False) (DropI_kept w _ _ _ _ _ _ _ _ _ (by omega)) (fun _ _ _ _ _ h => h.elim) ⟨⟨Lib.hid K0, Lib.hid K1, Lib.hid K5, Lib.hid K7⟩, Lib.hid HB⟩
    (fun x a' W => a' = { tmps := #[qv A n c f m, .int .i64 (k : Int), .pointer (some ⟨w.heap.size, 0, none⟩), undef, .pointer (some ⟨w.heap.size + 1, 0, none⟩), .int .i64 0, .pointer (some ⟨G, 0, none⟩), qe x, qv A n c f m, .bool true, .bool false, undef, .int .i64 (k : Int), .bool false, .bool false, .int .i64 (k : Int), .pointer (some ⟨w.heap.size, 2, none⟩), .int .i64 (m : Int), .bool false, .bool false, undef, .pointer (some ⟨w.heap.size, 0, none⟩), .slice A n c, .slice (some ⟨g, 0, none⟩) n c2, qv A n c f m, .int .i64 (k : Int), .func (.func 27) #[] #[.pointer (some ⟨G + 1 + 1, 0, none⟩), .pointer (some ⟨G + 1 + 2, 0, none⟩), .pointer (some ⟨G + 1, 0, none⟩)], qe x, undef, undef, undef, undef, undef, undef, undef, undef, undef, undef, undef, undef], defers := [] })
    (fun x a' Y l o o' hs hl ho hc => hs)
    ?assign ?body ?done ?stop
  case assign =>
    rintro l pre x W Kc hI hKc
    gi_wp2
    exact hKc _ _ (KeepsFrom.refl _ _) (KpQ.refl _ _) hI rfl
  case body =>
    rintro l pre x a' W hl ⟨⟨d1, d2, d3, d4⟩, hB1⟩ rfl hpre
    obtain ⟨hx, hset⟩ := HMORE.out pre x hpre
    have HSET := Lib.hid hset
    obtain ⟨c0, f0⟩ := d4.out.cell x hx
    obtain ⟨c1, _⟩ := qcell d3.out
    have x0 : (x : Int) < (n : Int) := by omega
    have x1 : (0 : Int) ≤ (x : Int) := by omega
    have HST : Hid (KpQ w.heap.size W (W.setCell ⟨g, x, none⟩ (sv []))) := Lib.hid (by obtain ⟨cur, hb, _⟩ := d4.out; exact KpQ.set_ hb (.inl rfl) (by omega) x _)
    have HR2 : Hid (QS (W.setCell ⟨g, x, none⟩ (sv [])) g n c2 (qdrop L f (pre ++ [x]).length)) := Lib.hid (by rw [← HSET.out]; exact d4.out.set_ x [])
    have HNE : Hid (G ≠ g) := Lib.hid (by omega)
    generalize (qdrop L f pre.length).getD x [] = t at *
    clear hpre K0 K1 K5 K7 HB hset z4 HHA eg
    gi_wp2
    exact ⟨(KeepsOthers.setCell _ _ _).from _, HST.out, ⟨Lib.hid (d1.out.far (by simp; omega) _), Lib.hid (d2.out.far (by simp; omega) _), Lib.hid (d3.out.far (by simp; exact HNE.out) _), HR2⟩, Lib.hid (bs hB1.out (by omega) _)⟩
  case done =>
    rintro D W hD ⟨⟨d1, d2, d3, d4⟩, hB1⟩ hKd
    rw [HL.out] at d4
    have hmx : Try.prog.follows .mixedOrders = true := by kernel_rfl
    have e1 : Blk W.drew w.heap.size 24 (qcs A n c (f : Int) (m : Int)) := d1.out
    have e2 : Blk W.drew (w.heap.size + 1) 24 (qcs none 0 0 0 0) := d2.out
    have e3 : Blk W.drew G 22 #[.slice (some ⟨g, 0, none⟩) n c2] := d3.out
    have HBL : Hid (∀ w9, Below W.drew.heap.size W.drew w9 → Blk w9 w.heap.size 24 (qcs A n c (f : Int) (m : Int)) ∧ Blk w9 (w.heap.size + 1) 24 (qcs none 0 0 0 0) ∧ Blk w9 G 22 #[.slice (some ⟨g, 0, none⟩) n c2]) := Lib.hid fun w9 hb => ⟨e1.below hb, e2.below hb, e3.below hb⟩
    have HEND : Hid (∀ w9, Below W.drew.heap.size W.drew w9 → ∀ v0 v1 v2 : Value, ∃ w5, w5 = (((w9.setCell ⟨w.heap.size + 1, 0, none⟩ v0).setCell ⟨w.heap.size + 1, 1, none⟩ v1).setCell ⟨w.heap.size + 1, 2, none⟩ v2) ∧ Blk (w5.putObj D (.deferred none)) (w.heap.size + 1) 24 #[v0, v1, v2] ∧ QS (w5.putObj D (.deferred none)) g n c2 (qdrop L f k) ∧ w5.heap[D]? = some (.deferred (some [])) ∧ Below w.heap.size w (w5.putObj D (.deferred none))) := Lib.hid fun w9 hb v0 v1 v2 => by
      have hDl : D < W.heap.size := (Array.getElem?_eq_some_iff.1 hKd).1
      have hD9 : w9.heap[D]? = some (.deferred (some [])) := (hb.block D hDl).trans hKd
      have b2 := (e2.below hb)
      have q9 := d4.out.below (show Below W.heap.size W w9 from (Below.refl _ _).drew.trans hb)
      have B9 : Below w.heap.size w w9 := bt hB1.out ((Below.refl _ _).drew.trans hb)
      have hDn : D ≠ w.heap.size + 1 := by omega
      refine ⟨_, rfl, ?_⟩
      have b5 := ((b2.set_ 0 v0).set_ 1 v1).set_ 2 v2
      have q5 := ((q9.far (p := ⟨w.heap.size + 1, 0, none⟩) (by simp; omega) v0).far (p := ⟨w.heap.size + 1, 1, none⟩) (by simp; omega) v1).far (p := ⟨w.heap.size + 1, 2, none⟩) (by simp; omega) v2
      have B5 := bs (bs (bs B9 (b := w.heap.size + 1) (o := 0) (by omega) v0) (b := w.heap.size + 1) (o := 1) (by omega) v1) (b := w.heap.size + 1) (o := 2) (by omega) v2
      have D5 := (Below.heap_setCell ((w9.setCell ⟨w.heap.size + 1, 0, none⟩ v0).setCell ⟨w.heap.size + 1, 1, none⟩ v1) ⟨w.heap.size + 1, 2, none⟩ v2 D hDn).trans ((Below.heap_setCell (w9.setCell ⟨w.heap.size + 1, 0, none⟩ v0) ⟨w.heap.size + 1, 1, none⟩ v1 D hDn).trans ((Below.heap_setCell w9 ⟨w.heap.size + 1, 0, none⟩ v0 D hDn).trans hD9))
      exact ⟨qblk_putObj b5 D5 rfl, q5.putObj D5 rfl, D5, B5.grown (grownBy_putObj' _ D _) B5.size (fun k e => by cases e; omega)⟩
    have hwq : IntKind.i64.wrap (q : Int) = (q : Int) := by rw [IntKind.wrap_i64]; omega
    obtain ⟨⟨q0, q1, q2⟩, _⟩ := qcells e1
    obtain ⟨c1, _⟩ := qcell e3
    clear K0 K1 K5 K7 HB z4 HHA eg HL HMORE d1 d2 d3 d4 hB1 hD hKd e1 e2 e3
    gi_wp2
    refine wpIn_onlyQ ?_
    gi_region_with_o (refine ⟨trivial, ?_⟩; (with_reducible refine (callsIn_wide.2 (HS.out _)).mono ?_); rintro e w9 ⟨rfl, hb9⟩; have E9 := Lib.hid (HEND.out w9 hb9); obtain ⟨⟨⟨t0, t1, t2⟩, _⟩, ⟨⟨t3, t4, t5⟩, t6, t7, t8⟩, t9, _⟩ := (HBL.out w9 hb9).imp qcells (And.imp qcells qcell); clear hb9)
    all_goals
      obtain ⟨w5, hw5, b5, q5, D5, B5⟩ := E9.out (.slice (some ⟨g, 0, none⟩) n c2) (.int .i64 (p : Int)) (.int .i64 (q : Int))
      rw [← hw5]
      clear hw5 E9 t0 t1 t2 t3 t4 t5 t6 t7 t8 t9 q0 q1 q2 c1
      simp only [OnlyQ, Exit.then, Act.put, List.getElem_toArray, List.getElem_cons_succ, List.getElem_cons_zero, List.setIfInBounds_toArray, List.set_cons_zero, List.set_cons_succ]
      go_at_K
      gi_wp2
      refine ⟨by simp, .inl ⟨_, _, rfl, run_takeDeferred D5, ?_⟩⟩
      exact ⟨_, ring_result rfl b5, g, c2, rfl, q5, B5⟩
  case stop =>
    rintro D c pre W hD hp h
    exact h.elim
end Go.Proofs.Ytnehodipblabbaa
