/- Texts of this seat, one behind the other: JHands, JScan, JSame. -/
import Derived.Maps.OwnIn
import Derived.BigQuiet
import Derived.Test.YtfmlpomnhkjolaaQ01
import Derived.Test.YtfmlpomnhkjolaaQ04
import Derived.Test.YtfmlpomnhkjolaaQ14
import Derived.Test.YtfmlpomnhkjolaaQ15
/- The iterator records: what it hands on. -/
namespace Go.Proofs.Ytfmlpomnhkjolaa
open Go.RowKit Go.Shelf
attribute [local go_sem] Oper.semAt_some

/-- Texts and their numbers. -/
def pairsL (k : List UInt8) : Nat → List (List UInt8) → List (List UInt8 × Nat)
  | _, [] => []
  | n, s :: L => (s, nextL k n s) :: pairsL k (nextL k n s) L
theorem pairsL_len (k : List UInt8) (n : Nat) (L : List (List UInt8)) : (pairsL k n L).length = L.length := by
  induction L generalizing n with
  | nil => rfl
  | cons x L ih => simp [pairsL, ih]
theorem pairsL_app (k : List UInt8) (n : Nat) (L M : List (List UInt8)) : pairsL k n (L ++ M) = pairsL k n L ++ pairsL k (lastL k n L) M := by
  induction L generalizing n with
  | nil => rfl
  | cons x L ih => rw [List.cons_append, pairsL, ih]; rfl
theorem pairsL_take (k : List UInt8) (n : Nat) (L : List (List UInt8)) (j : Nat) : (pairsL k n L).take j = pairsL k n (L.take j) := by
  induction L generalizing n j with
  | nil => cases j <;> rfl
  | cons x L ih =>
    cases j with
    | zero => rfl
    | succ j => simp [pairsL, ih]
theorem pairsL_more (k : List UInt8) (n : Nat) (L : List (List UInt8)) (j : Nat) (h : j < L.length) : (pairsL k n L).take (j + 1) = (pairsL k n L).take j ++ [(L.getD j [], nextL k (lastL k n (L.take j)) (L.getD j []))] := by
  rw [pairsL_take, pairsL_take, take_more L j h, pairsL_app]
  simp [pairsL, List.getD, h]
/-- What is left behind so many records. -/
def restL (k : List UInt8) (q : Nat) (L : List (List UInt8)) (R : List UInt8) (j : Nat) : List UInt8 := writeL k (lastL k q (L.take j)) (L.drop j) ++ R
theorem restL_split (k : List UInt8) (q : Nat) (L : List (List UInt8)) (R : List UInt8) (j : Nat) : writeL k q L ++ R = writeL k q (L.take j) ++ restL k q L R j := by
  unfold restL
  rw [← List.append_assoc, ← writeL_split]
theorem restL_rec (k : List UInt8) (q : Nat) (L : List (List UInt8)) (R : List UInt8) (j : Nat) (h : j < L.length) : restL k q L R j = recL k (lastL k q (L.take j)) (L.getD j []) ++ restL k q L R (j + 1) := by
  unfold restL
  rw [writeL_drop _ _ _ _ h, lastL_take k q L j h, List.append_assoc]
theorem restL_end (k : List UInt8) (q : Nat) (L : List (List UInt8)) (R : List UInt8) : restL k q L R L.length = R := by
  unfold restL
  rw [List.drop_length]
  rfl
def strSz : Value → Nat
  | .string s => s.size
  | _ => 0
theorem jextract_drop (a b : List UInt8) (m n : Nat) (hm : a.length = m) (hn : (a ++ b).length = n) : (⟨(a ++ b).toArray⟩ : ByteArray).extract m n = ⟨b.toArray⟩ := by
  apply ByteArray.ext
  apply Array.toList_inj.1
  rw [Lib.extract_data]
  subst hm
  subst hn
  simp

set_option maxRecDepth 100000 in
set_option maxHeartbeats 4000000 in
theorem records_hands (m : Nat) (hm : 1 ≤ m) (Bl Bs Bk : Nat) (k : List UInt8) (q : Nat) (L : List (List UInt8)) (R : List UInt8) (w : World) (hk : k.length ≤ 60000) (hq : q < 18446744073709551616) (hL : ∀ j, j < L.length → (L.getD j []).length ≤ 4096) (hR : Ends k (lastL k q L) R) (hlen : (writeL k q L ++ R).length ≤ 60000)
    (b1 : Blk w Bl 22 #[.int .u64 (q : Int)]) (b2 : Blk w Bs 9 #[.string ⟨(writeL k q L ++ R).toArray⟩]) (b3 : Blk w Bk 9 #[.string ⟨k.toArray⟩]) :
    HandsX2 m 50 #[.pointer (some ⟨Bl, 0, none⟩), .pointer (some ⟨Bs, 0, none⟩), .pointer (some ⟨Bk, 0, none⟩)] (fun x => .string ⟨x.1.toArray⟩) (fun x => .int .u64 (x.2 : Int)) (pairsL k q L) (fun i => i = Bl ∨ i = Bs ∨ i = Bk) w := by
  rintro l J X W hX hJ hY h0 hbd
  have HJ := Lib.hid hJ
  have HY := Lib.hid hY
  have hXk := (hX Bk (.inr (.inr rfl))).1
  have a1 : Blk W Bl 22 #[.int .u64 (q : Int)] := (hX Bl (.inl rfl)).2.trans b1
  have a2 : Blk W Bs 9 #[.string ⟨(writeL k q L ++ R).toArray⟩] := (hX Bs (.inr (.inl rfl))).2.trans b2
  have a3 : Blk W Bk 9 #[.string ⟨k.toArray⟩] := (hX Bk (.inr (.inr rfl))).2.trans b3
  have c1 : W.cell? ⟨Bl, 0, none⟩ = some (.int .u64 (lastL k q (L.take 0) : Int)) := a1.cell 0
  have c2 : W.cell? ⟨Bs, 0, none⟩ = some (.string ⟨(restL k q L R 0).toArray⟩) := a2.cell 0
  have HT := Lib.hid (fun j (h : j < L.length) => pairsL_more k q L j h)
  have HFL := Lib.hid (pairsL_len k q L)
  have HRS := Lib.hid (fun j (h : j < L.length) => restL_rec k q L R j h)
  have HLT := Lib.hid (fun j (h : j < L.length) => lastL_take k q L j h)
  have HLL := Lib.hid (fun j => lastL_lt k q hq (L.take j))
  have HRL : Hid (∀ j, (restL k q L R j).length ≤ 60000) := Lib.hid fun j => by
    have h1 := restL_split k q L R j
    have h2 : (writeL k q L ++ R).length = (writeL k q (L.take j)).length + (restL k q L R j).length := by rw [h1, List.length_append]
    omega
  have HRE : Hid (restL k q L R L.length = R) := Lib.hid (restL_end k q L R)
  have HEN : Hid (Ends k (lastL k q (L.take L.length)) R) := Lib.hid (by rw [List.take_length]; exact hR)
  generalize pairsL k q L = zs at HT HFL HY ⊢
  have HJD : Hid (J [] X W.drew) := Lib.hid (by
    have h1 := hJ [] X W W.drew h0 (Grow.refl X W).drew
    rwa [Xn.none (A := W) (B := W.drew) rfl] at h1)
  have HST : Hid (J (zs.take 0) X W.drew ∧ X Bk ∧ Bd X W.drew ∧ Blk W.drew Bk 9 #[.string ⟨k.toArray⟩]) := Lib.hid ⟨HJD.out, hXk, hbd, a3⟩
  have HL := Lib.hid hL
  have HK := Lib.hid hk
  obtain ⟨N, hN⟩ : ∃ N, L.length = N := ⟨_, rfl⟩
  rw [hN] at HT HFL HRS HLT HRE HEN HL
  clear hX hJ hY h0 hXk hbd b1 b2 b3 a1 a2 a3 hL hR hlen hq hk hN HJD
  refine callsIn_of_wp Try.func50 rfl trivial ?_ rfl
  simp only [Try.ntmps50, List.size_toArray, List.length_cons, List.length_nil, Nat.reduceAdd, Nat.reduceSub, Array.replicate_succ, Array.replicate_zero, List.push_toArray, List.append_toArray, List.nil_append, List.cons_append]
  gi_wp2
  gi_region
  gi_wp2
  gi_loopw [5, 6] (fun av rv wr => ∃ (j : Nat) (Y : Nat → Prop), Hid (j ≤ N) ∧ av = .int .u64 (lastL k q (L.take j) : Int) ∧ rv = .string ⟨(restL k q L R j).toArray⟩ ∧ Hid (J (zs.take j) Y wr ∧ Y Bk ∧ Bd Y wr ∧ Blk wr Bk 9 #[.string ⟨k.toArray⟩])) (fun _ rv _ => strSz rv)
  case atStart => exact ⟨0, X, Lib.hid (Nat.zero_le _), rfl, rfl, HST⟩
  case round =>
    clear HST
    obtain ⟨j, Y, HI, rfl, rfl, HKB⟩ := hrel
    by_cases hlt : j < N
    · have hrs := HRS.out j hlt
      have hsl := HL.out j hlt
      have hal := HLL.out j
      have hz := HRL.out j
      have hll := HLT.out j hlt
      have HZ := Lib.hid (HT.out j hlt)
      rw [← hll] at HZ
      have HF := Lib.hid (fun W => first_some (restL k q L R j) (L.getD j []) W (by omega) (by rw [hrs]; exact firstO_rec _ _ _ _ hsl))
      have HR1 := Lib.hid (fun W => record_yes k (L.getD j []) (lastL k q (L.take j)) W HK.out hsl hal)
      rw [← hll] at HR1
      have HP1 := Lib.hid (fun W => prefix_any (restL k q L R j) (recL k (lastL k q (L.take j)) (L.getD j [])) W)
      rw [show decide (recL k (lastL k q (L.take j)) (L.getD j []) <+: restL k q L R j) = true by rw [hrs]; simp] at HP1
      have hrl := recL_len k (lastL k q (L.take j)) (L.getD j [])
      have hzl : (restL k q L R j).length = (recL k (lastL k q (L.take j)) (L.getD j [])).length + (restL k q L R (j + 1)).length := by rw [hrs, List.length_append]
      have hex := jextract_drop (recL k (lastL k q (L.take j)) (L.getD j [])) (restL k q L R (j + 1)) _ _ rfl rfl
      rw [← hrs] at hex
      have hs1 := size_mk (restL k q L R j)
      have hs2 := size_mk (recL k (lastL k q (L.take j)) (L.getD j []))
      have hs3 := size_mk (restL k q L R (j + 1))
      obtain ⟨a2, ha2⟩ : ∃ a2, lastL k q (L.take (j + 1)) = a2 := ⟨_, rfl⟩
      obtain ⟨r2, hr2⟩ : ∃ r2, restL k q L R (j + 1) = r2 := ⟨_, rfl⟩
      rw [ha2] at HZ HR1
      rw [hr2] at hzl hex hs3
      have HA2 := Lib.hid ha2
      have HR2 := Lib.hid hr2
      clear hll hrs ha2 hr2
      generalize recL k (lastL k q (L.take j)) (L.getD j []) = rec at *
      generalize lastL k q (L.take j) = a1 at *
      generalize restL k q L R j = r1 at *
      generalize L.getD j [] = s at *
      obtain ⟨n1, hn1⟩ : ∃ n1, r1.length = n1 := ⟨_, rfl⟩
      obtain ⟨n2, hn2⟩ : ∃ n2, rec.length = n2 := ⟨_, rfl⟩
      rw [hn1] at hz hzl hex hs1
      rw [hn2] at hrl hzl hex hs2
      have HSZ : Hid (strSz (.string ⟨r2.toArray⟩) < strSz (.string ⟨r1.toArray⟩)) := Lib.hid (by simp only [strSz]; omega)
      have i1 : (n2 : Int) ≤ (n1 : Int) := by omega
      have i0 : n2 ≤ n1 := by omega
      have HJW := Lib.hid (fun wa (hba : Below wr.heap.size wr wa) => HJ.out _ _ _ _ HKB.out.1 (Grow.of_below hba Y))
      have HBW := Lib.hid (fun wa (hba : Below wr.heap.size wr wa) => (HKB.out.2.2.2.below hba : Blk wa Bk 9 #[.string ⟨k.toArray⟩]))
      have HPRE : Hid (zs.take j ++ [(s, a2)] <+: zs) := Lib.hid (by rw [← HZ.out]; exact List.take_prefix _ _)
      have HYY := Lib.hid (fun wa (hba : Below wr.heap.size wr wa) => HY.out _ _ _ _ (HJW.out wa hba) (Xn.bd HKB.out.2.2.1 hba.size) HPRE.out)
      clear hz hsl hal hrl hzl hn1 hn2 hs3
      gi_wp2_with fail
      refine ⟨trivial, ?_⟩
      refine (callsIn_wide.2 (HF.out _)).mono ?_
      rintro e w1 ⟨rfl, hb1⟩
      have c3 : w1.cell? ⟨Bk, 0, none⟩ = some (.string ⟨k.toArray⟩) := (HBW.out w1 hb1).cell 0
      gi_wp2_with fail
      refine ⟨trivial, ?_⟩
      refine (callsIn_wide.2 (HR1.out _)).mono ?_
      rintro e w2 ⟨rfl, hb2⟩
      have hB2 := bt hb1 hb2
      clear c3
      obtain ⟨fn, tmps, assign, body, hy, hR⟩ := HYY.out w2 hB2
      have HR := Lib.hid hR
      clear hR
      gi_wp2_with fail
      refine ⟨trivial, ?_⟩
      refine (callsIn_wide.2 (HP1.out _)).mono ?_
      rintro e w3 ⟨rfl, rfl⟩
      gi_wp2
      refine HR.out.mono ?_
      rintro e w4 ⟨rfl, hJ3, hk3⟩
      have hB3 : Blk w4 Bk 9 #[.string ⟨k.toArray⟩] := (hk3.2 Bk (.inl HKB.out.2.1)).trans (HBW.out w2 hB2)
      have hbd3 : Bd (Xn Y wr w2) w4 := fun i hi => Nat.lt_of_lt_of_le (Xn.bd HKB.out.2.2.1 hB2.size i hi) hk3.1
      have hJ4 := HJ.out _ _ _ _ hJ3 (Grow.refl (Xn Y wr w2) w4).drew
      rw [Xn.none (A := w4) (B := w4.drew) rfl] at hJ4
      have HFIN : Hid (J (zs.take (j + 1)) (Xn Y wr w2) w4.drew ∧ Xn Y wr w2 Bk ∧ Bd (Xn Y wr w2) w4.drew ∧ Blk w4.drew Bk 9 #[.string ⟨k.toArray⟩]) := Lib.hid ⟨by rw [HZ.out]; exact hJ4, .inl HKB.out.2.1, hbd3, hB3⟩
      clear hy hJ3 hk3 hB3 hbd3 hJ4 hb1 hb2 hB2
      gi_wp2
      gi_region
      gi_wp2
      exact ⟨⟨j + 1, _, Lib.hid (by omega), by rw [HA2.out], by rw [HR2.out], HFIN.out⟩, HSZ.out⟩
    · obtain rfl : j = N := by have := HI.out; omega
      have HTK : Hid (zs.take j = zs) := Lib.hid (List.take_of_length_le (by rw [HFL.out]; exact Nat.le_refl _))
      rw [HRE.out]
      have hal := HLL.out j
      have hz := HRL.out j
      rw [HRE.out] at hz
      have hend := HEN.out
      generalize lastL k q (L.take j) = a1 at *
      cases hf : firstO R with
      | none =>
        have HF := Lib.hid (fun W => first_none R W (by omega) hf)
        clear hf hend hz hal
        gi_wp2_with fail
        refine ⟨trivial, ?_⟩
        refine (callsIn_wide.2 (HF.out _)).mono ?_
        rintro e w1 ⟨rfl, hb1⟩
        gi_wp2
        refine bodyPost_ret (results_none rfl _ _ _) rfl ?_
        have hJ2 := HJ.out _ _ _ _ HKB.out.1 (Grow.of_below hb1 Y)
        rw [HTK.out] at hJ2
        exact ⟨⟨_, rfl⟩, _, hJ2, Xn.bd HKB.out.2.2.1 hb1.size⟩
      | some s =>
        have hsl := firstO_len R s hf
        have HF := Lib.hid (fun W => first_some R s W (by omega) hf)
        have HR1 := Lib.hid (fun W => record_yes k s a1 W HK.out hsl hal)
        have HP1 := Lib.hid (fun W => prefix_any R (recL k a1 s) W)
        rw [show decide (recL k a1 s <+: R) = false by simp; exact hend s hsl] at HP1
        have HBW := Lib.hid (fun wa (hba : Below wr.heap.size wr wa) => (HKB.out.2.2.2.below hba : Blk wa Bk 9 #[.string ⟨k.toArray⟩]))
        generalize nextL k a1 s = a2 at *
        generalize recL k a1 s = rec at *
        clear hf hend hz hal hsl
        gi_wp2_with fail
        refine ⟨trivial, ?_⟩
        refine (callsIn_wide.2 (HF.out _)).mono ?_
        rintro e w1 ⟨rfl, hb1⟩
        have c3 : w1.cell? ⟨Bk, 0, none⟩ = some (.string ⟨k.toArray⟩) := (HBW.out w1 hb1).cell 0
        gi_wp2_with fail
        refine ⟨trivial, ?_⟩
        refine (callsIn_wide.2 (HR1.out _)).mono ?_
        rintro e w2 ⟨rfl, hb2⟩
        have hB2 := bt hb1 hb2
        clear c3 hb1 hb2
        gi_wp2_with fail
        refine ⟨trivial, ?_⟩
        refine (callsIn_wide.2 (HP1.out _)).mono ?_
        rintro e w3 ⟨rfl, rfl⟩
        gi_wp2
        refine ⟨(fun f hf => by cases hf), ?_⟩
        gi_wp2
        refine bodyPost_ret (results_none rfl _ _ _) rfl ?_
        have hJ2 := HJ.out _ _ _ _ HKB.out.1 (Grow.of_below hB2 Y)
        rw [HTK.out] at hJ2
        exact ⟨⟨_, rfl⟩, _, hJ2, Xn.bd HKB.out.2.2.1 hB2.size⟩
end Go.Proofs.Ytfmlpomnhkjolaa
/- The contract of Scan. -/
namespace Go.Proofs.Ytfmlpomnhkjolaa
open Go.RowKit Go.Shelf
attribute [local go_sem] Oper.semAt_some

set_option maxHeartbeats 1000000 in
theorem records_any (k log : List UInt8) (q : Nat) (w : World) :
    Calls Try.prog 35 #[.string ⟨k.toArray⟩, .int .u64 (q : Int), .string ⟨log.toArray⟩] w fun e w' => e = .returned (.func (.func 50) #[] #[.pointer (some ⟨w.heap.size + 1, 0, none⟩), .pointer (some ⟨w.heap.size + 2, 0, none⟩), .pointer (some ⟨w.heap.size, 0, none⟩)]) ∧ w' = ((w.alloc (.cells #[.string ⟨k.toArray⟩] 9)).alloc (.cells #[.int .u64 (q : Int)] 22)).alloc (.cells #[.string ⟨log.toArray⟩] 9) := by
  go_enter Try.func35, Try.ntmps35
  go_wp2
  go_ret
  exact ⟨rfl, rfl⟩

/-- Where a row of records ends, and its last number. -/
def endP (l : List (List UInt8 × Nat)) : Nat := l.foldl (fun a x => a + (x.1.length + 10)) 0
def lastP (q : Nat) (l : List (List UInt8 × Nat)) : Nat := (l.getLast?.map (·.2)).getD q
theorem endP_more (l : List (List UInt8 × Nat)) (x : List UInt8 × Nat) : endP (l ++ [x]) = endP l + (x.1.length + 10) := by simp [endP]
theorem lastP_more (q : Nat) (l : List (List UInt8 × Nat)) (x : List UInt8 × Nat) : lastP q (l ++ [x]) = x.2 := by simp [lastP]
theorem endP_app (l m : List (List UInt8 × Nat)) : endP l ≤ endP (l ++ m) := by
  induction m generalizing l with
  | nil => simp
  | cons x m ih =>
    have h1 := ih (l ++ [x])
    rw [endP_more, List.append_assoc] at h1
    exact Nat.le_trans (Nat.le_add_right _ _) h1
theorem pairs_end (k : List UInt8) (q : Nat) (L : List (List UInt8)) : ∀ j, j ≤ L.length → endP ((pairsL k q L).take j) = (writeL k q (L.take j)).length ∧ lastP q ((pairsL k q L).take j) = lastL k q (L.take j) := by
  intro j
  induction j with
  | zero => intro _; exact ⟨rfl, rfl⟩
  | succ j ih =>
    intro h
    obtain ⟨h1, h2⟩ := ih (by omega)
    rw [pairsL_more k q L j (by omega), endP_more, lastP_more, h1, writeL_take k q L j (by omega), lastL_take k q L j (by omega), List.length_append, recL_len]
    exact ⟨rfl, rfl⟩
theorem pairs_whole (k : List UInt8) (q : Nat) (L : List (List UInt8)) : endP (pairsL k q L) = (writeL k q L).length ∧ lastP q (pairsL k q L) = lastL k q L := by
  have h := pairs_end k q L L.length (Nat.le_refl _)
  rwa [List.take_of_length_le (by rw [pairsL_len]; exact Nat.le_refl _), List.take_length] at h
theorem pairs_texts (k : List UInt8) (q : Nat) (L : List (List UInt8)) : (pairsL k q L).map (·.1) = L := by
  induction L generalizing q with
  | nil => rfl
  | cons x L ih => simp [pairsL, ih]

theorem endP_len (l : List (List UInt8 × Nat)) : l.length * 10 ≤ endP l := by
  suffices h : ∀ (l : List (List UInt8 × Nat)) (a : Nat), a + l.length * 10 ≤ l.foldl (fun a x => a + (x.1.length + 10)) a by
    have := h l 0
    unfold endP
    omega
  intro l
  induction l with
  | nil => intro a; simp
  | cons x l ih =>
    intro a
    have := ih (a + (x.1.length + 10))
    rw [List.foldl_cons, List.length_cons, Nat.succ_mul]
    omega
/-- In a round, behind its append. -/
def ScanJ (q : Nat) (w : World) (g1 g2 g3 : Nat) (pre : List (List UInt8 × Nat)) (x : List UInt8 × Nat) (Y : Nat → Prop) (V W : World) : Prop :=
  ∃ v, Blk W g1 23 #[v] ∧ W.ownsRow w.heap.size 9 1 v (pre.length + 1) ((pre.map (·.1)).map sv ++ [sv x.1]) ∧ (∀ i, v.ownBlock = some i → ¬ Y i ∧ i < W.heap.size) ∧
    Blk W g2 3 #[.int .i64 (endP pre : Int)] ∧ Blk W g3 22 #[.int .u64 (lastP q pre : Int)] ∧ Below w.heap.size w W ∧ Keep Y V W
/-- Between two rounds. -/
def ScanI (q : Nat) (w : World) (g1 g2 g3 : Nat) (pre : List (List UInt8 × Nat)) (Y : Nat → Prop) (V : World) : Prop :=
  ∃ v, Blk V g1 23 #[v] ∧ V.ownsRow w.heap.size 9 1 v pre.length ((pre.map (·.1)).map sv) ∧ (∀ i, v.ownBlock = some i → ¬ Y i ∧ i < V.heap.size) ∧
    Blk V g2 3 #[.int .i64 (endP pre : Int)] ∧ Blk V g3 22 #[.int .u64 (lastP q pre : Int)] ∧ (¬ Y g1 ∧ ¬ Y g2 ∧ ¬ Y g3) ∧ (∀ i, Y i → w.heap.size ≤ i) ∧ Below w.heap.size w V
theorem jown_kept {W W' : World} {base : Nat} {e : TypeId} {size : Nat} {v : Value} {n : Nat} {xs : List Value} (h : W.ownsRow base e size v n xs) (hk : ∀ k, v.ownBlock = some k → W'.heap[k]? = W.heap[k]?) : W'.ownsRow base e size v n xs := by
  refine ⟨h.1, ?_⟩
  rcases h.2 with h2 | ⟨g, cap, cur, hv, hg, hh, r⟩
  · exact Or.inl h2
  · exact Or.inr ⟨g, cap, cur, hv, hg, (hk g (by rw [hv]; rfl)).trans hh, r⟩
theorem ScanI.ab (q : Nat) (w : World) (g1 g2 g3 : Nat) : Ab (ScanI q w g1 g2 g3) := by
  rintro s X V V' ⟨v, h1, h2, h3, h4, h5, ⟨n1, n2, n3⟩, h6, h7⟩ hgr
  have hn : ∀ i, i < V.heap.size → ¬ X i → ¬ Xn X V V' i := by
    rintro i hi hx (h | ⟨h, _⟩)
    · exact hx h
    · omega
  refine ⟨v, (hgr.block _ h1.lt n1).trans h1, jown_kept h2 (fun i hi => hgr.block i (h3 i hi).2 (h3 i hi).1), fun i hi => ⟨hn i (h3 i hi).2 (h3 i hi).1, Nat.lt_of_lt_of_le (h3 i hi).2 hgr.size⟩, (hgr.block _ h4.lt n2).trans h4, (hgr.block _ h5.lt n3).trans h5, ⟨hn _ h1.lt n1, hn _ h4.lt n2, hn _ h5.lt n3⟩, ?_, ?_⟩
  · rintro i (h | ⟨h, _⟩)
    · exact h6 i h
    · have := h7.size; omega
  · exact ⟨hgr.os.trans h7.os, hgr.tape.trans h7.tape, hgr.output.trans h7.output, Nat.le_trans h7.size hgr.size, fun i hi => (hgr.block i (Nat.lt_of_lt_of_le hi h7.size) (fun hx => by have := h6 i hx; omega)).trans (h7.block i hi)⟩

set_option maxRecDepth 100000 in
set_option maxHeartbeats 8000000 in
theorem scan_any (k f : List UInt8) (L : List (List UInt8)) (R : List UInt8) (w : World) (hk : k.length ≤ 60000) (hf : f.length ≤ 60000) (hL : ∀ j, j < L.length → (L.getD j []).length ≤ 4096) (hR : Ends k (lastL k (wordL k f) L) R) (hlen : (writeL k (wordL k f) L ++ R).length ≤ 60000) :
    Calls Try.prog 18 #[.string ⟨k.toArray⟩, .string ⟨f.toArray⟩, .string ⟨(writeL k (wordL k f) L ++ R).toArray⟩] w fun e w' => ∃ A c, e = .returned (.tuple #[.slice A L.length c, .int .i64 ((writeL k (wordL k f) L).length : Int), .int .u64 (lastL k (wordL k f) L : Int)]) ∧ SR w' A L ∧ Below w.heap.size w w' := by
  refine (callsIn_wide (n := 20)).1 ?_
  obtain ⟨i0, hi0, hz0, hz1, hz2⟩ := info_parts infoS
  have eg : ∀ args w, (callFunc 50 args).run Try.prog w = .ok (.enter 50 args) w := enters_of Try.func50 (by kernel_rfl) rfl
  have S1 := Lib.hid (fun W => jstart_any k f W hk hf)
  have hq := wordL_lt k f
  generalize wordL k f = q at *
  obtain ⟨log, hlog⟩ : ∃ log, writeL k q L ++ R = log := ⟨_, rfl⟩
  rw [hlog]
  refine callsIn_of_wp_marks Try.func18 rfl trivial ?_ rfl
  simp only [Try.ntmps18, List.size_toArray, List.length_cons, List.length_nil, Nat.reduceAdd, Nat.reduceSub, Array.replicate_succ, Array.replicate_zero, List.push_toArray, List.append_toArray, List.nil_append, List.cons_append]
  gi_wp2_with fail
  refine ⟨trivial, ?_⟩
  refine (callsIn_wide.2 (S1.out _)).mono ?_
  rintro e w1 ⟨rfl, hb1⟩
  gi_wp2_with fail
  refine ⟨trivial, ?_⟩
  refine (callsIn_wide.2 (records_any k log q _)).mono ?_
  rintro e w' ⟨rfl, rfl⟩
  gi_wp2
  generalize hW0 : World.alloc (World.alloc (World.alloc (World.alloc (World.alloc w1 _) _) _) _) _ = W0
  have z1 := hb1.size
  rw [World.size_alloc] at z1
  have z0 : W0.heap.size = w1.heap.size + 5 := by rw [← hW0]; simp
  have hbx : Below w1.heap.size w1 W0 := by rw [← hW0]; exact ba (ba (ba (ba (ba (Below.refl _ _) _) _) _) _) _
  have hB1 : Below w.heap.size w W0 := bt (bt (ba (Below.refl _ _) _) hb1) hbx
  have g1 : Blk W0 w.heap.size 23 #[.slice none 0 0] := ((Blk.new w _ _).below hb1).below hbx
  have g2 : Blk W0 w1.heap.size 3 #[.int .i64 0] := by rw [← hW0]; exact ((((Blk.new w1 _ _).alloc _).alloc _).alloc _).alloc _
  have g3 : Blk W0 (w1.heap.size + 1) 22 #[.int .u64 (q : Int)] := by rw [← hW0]; exact (((Blk.newAt (by simp) _ _).alloc _).alloc _).alloc _
  have bk : Blk W0 (w1.heap.size + 1 + 1) 9 #[.string ⟨k.toArray⟩] := by rw [← hW0]; exact ((Blk.newAt (by simp) _ _).alloc _).alloc _
  have bl : Blk W0 (w1.heap.size + 1 + 1 + 1) 22 #[.int .u64 (q : Int)] := by rw [← hW0]; exact (Blk.newAt (by simp) _ _).alloc _
  have bs : Blk W0 (w1.heap.size + 1 + 1 + 2) 9 #[.string ⟨log.toArray⟩] := by rw [← hW0]; exact Blk.newAt (by simp) _ _
  clear hW0 hbx hb1 S1
  obtain ⟨P1, P2⟩ := pairs_whole k q L
  have P3 := pairs_texts k q L
  have P4 : ∀ x ∈ pairsL k q L, x.1.length ≤ 4096 := fun x hx => by
    have h1 : x.1 ∈ L := by rw [← P3]; exact List.mem_map_of_mem hx
    obtain ⟨i, hi, e⟩ := List.getElem_of_mem h1
    have := hL i hi
    rw [← e]
    simpa [List.getD, hi] using this
  have P5 : endP (pairsL k q L) ≤ 60000 := by rw [P1]; rw [List.length_append] at hlen; omega
  have P6 := pairsL_len k q L
  have HH := records_hands 19 (by omega) (w1.heap.size + 1 + 1 + 1) (w1.heap.size + 1 + 1 + 2) (w1.heap.size + 1 + 1) k q L R W0 hk hq hL hR hlen bl (by rw [hlog]; exact bs) bk
  have HP1 := Lib.hid P1
  have HP2 := Lib.hid P2
  have HP3 := Lib.hid P3
  have HP4 := Lib.hid P4
  have HP5 := Lib.hid P5
  have HP6 := Lib.hid P6
  have HLN := Lib.hid hlen
  rw [hlog] at HLN
  clear P1 P2 P3 P4 P5 P6 hL hR hlen hk hf hq bk bl bs hlog
  generalize pairsL k q L = zs at *
  refine range_frame2 (n := 20) (by omega) (gf := 50) (lb := #[.pointer (some ⟨w1.heap.size + 1 + 1 + 1, 0, none⟩), .pointer (some ⟨w1.heap.size + 1 + 1 + 2, 0, none⟩), .pointer (some ⟨w1.heap.size + 1 + 1, 0, none⟩)]) rfl eg (e1 := fun x => .string ⟨x.1.toArray⟩) (e2 := fun x => .int .u64 (x.2 : Int)) (zs := zs) (X0 := fun i => i = w1.heap.size + 1 + 1 + 1 ∨ i = w1.heap.size + 1 + 1 + 2 ∨ i = w1.heap.size + 1 + 1) (w0 := W0) HH (fun i hi => ⟨by omega, rfl⟩) (ScanI q w w.heap.size w1.heap.size (w1.heap.size + 1)) (ScanI.ab _ _ _ _ _) ⟨.slice none 0 0, g1, World.ownsRow_nil _ _ _ _, (fun i hi => by cases hi), g2, g3, ⟨by omega, by omega, by omega⟩, (fun i hi => by omega), hB1⟩
    (fun x a' _ => a' = { tmps := #[.string ⟨k.toArray⟩, .string ⟨f.toArray⟩, .string ⟨log.toArray⟩, undef, undef, undef, .slice none 0 0, .int .i64 0, .int .u64 0, .pointer (some ⟨w.heap.size, 0, none⟩), .pointer (some ⟨w1.heap.size, 0, none⟩), .pointer (some ⟨w1.heap.size + 1, 0, none⟩), .string ⟨x.1.toArray⟩, .int .u64 (x.2 : Int), .string ⟨k.toArray⟩, .string ⟨f.toArray⟩, .int .u64 (q : Int), .string ⟨k.toArray⟩, .int .u64 (q : Int), .string ⟨log.toArray⟩, .func (.func 50) #[] #[.pointer (some ⟨w1.heap.size + 1 + 1 + 1, 0, none⟩), .pointer (some ⟨w1.heap.size + 1 + 1 + 2, 0, none⟩), .pointer (some ⟨w1.heap.size + 1 + 1, 0, none⟩)], .string ⟨x.1.toArray⟩, .int .u64 (x.2 : Int), undef, undef, undef, undef, undef, undef, undef, undef, undef, undef, undef, undef], defers := [] })
    (fun x a' V' i o o' hs hl ho hc => hs)
    ?assign ?body ?done
  case assign =>
    rintro l9 pre x Y V' K hI hbY _ _ hK
    gi_wp2
    exact hK _ _ hI (Keep.refl _ _) rfl
  case body =>
    rintro l9 pre x a' Y V' hl9 ⟨v, i1, i2, i3, i4, i5, ⟨n1, n2, n3⟩, i6, i7⟩ hbY rfl hpre
    have hx4 := HP4.out x (hpre.subset (by simp))
    have hxe : endP pre + (x.1.length + 10) ≤ 60000 := by
      obtain ⟨r, hr⟩ := hpre
      have h1 := endP_app (pre ++ [x]) r
      rw [hr, endP_more] at h1
      have := HP5.out
      omega
    have hpl := endP_len pre
    have HSO := Lib.hid (fun V => sizeOfJ_any x.1 V (by omega))
    have HLC : Hid (endP (pre ++ [x]) = endP pre + (x.1.length + 10) ∧ lastP q (pre ++ [x]) = x.2 ∧ (pre ++ [x]).length = pre.length + 1 ∧ ((pre ++ [x]).map (·.1)).map sv = (pre.map (·.1)).map sv ++ [sv x.1]) := Lib.hid ⟨endP_more _ _, lastP_more _ _ _, by simp, by simp⟩
    have c0 : V'.cell? ⟨w.heap.size, 0, none⟩ = some v := i1.cell 0
    have hownA := own_later i2 (ba (Below.refl V'.heap.size V') (.cells #[sv x.1] 9))
    have hnews : ∀ (i : Nat) (u : Value), [sv x.1][i]? = some u → (V'.alloc (.cells #[sv x.1] 9)).cell? ((⟨V'.heap.size, 0, none⟩ : Addr).add i) = some u := World.news_of_block (heap_alloc_new V' (.cells #[sv x.1] 9))
    have HE1 : Hid (∀ (v6 : Value) (w3 : World), w3.ownsRow w.heap.size 9 1 v6 (pre.length + 1) ((pre.map (·.1)).map sv ++ [sv x.1]) → (V'.alloc (.cells #[sv x.1] 9)).grownBy w3 v.ownBlock → (v6.ownBlock = v.ownBlock ∨ v6.ownBlock = some (V'.alloc (.cells #[sv x.1] 9)).heap.size) →
        (w3.cell? ⟨w.heap.size, 0, none⟩ = some v ∧ w3.frozen? ⟨w.heap.size, 0, none⟩ = false) ∧ ScanJ q w w.heap.size w1.heap.size (w1.heap.size + 1) pre x Y V' (w3.setCell ⟨w.heap.size, 0, none⟩ v6)) := Lib.hid (fun v6 w3 h1 h2 h3 => by
      have hbb := ba (Below.refl V'.heap.size V') (.cells #[sv x.1] 9)
      have hne : ∀ {g : Nat} {t : TypeId} {cs : Array Value}, Blk V' g t cs → 9 ≠ t → g ≠ w.heap.size ∨ g = w.heap.size → Blk w3 g t cs := fun hg ht _ => (h2.block _ (Nat.lt_of_lt_of_le hg.lt hbb.size) (fun e => own_blk_ne hownA (hg.below hbb) ht e.symm)).trans (hg.below hbb)
      have j1 := hne i1 (by decide) (.inr rfl)
      have j2 := hne i4 (by decide) (.inl (by omega))
      have j3 := hne i5 (by decide) (.inl (by omega))
      have hne6 : ∀ i, v6.ownBlock = some i → i ≠ w.heap.size ∧ ¬ Y i ∧ i < w3.heap.size := by
        intro i hi
        refine ⟨?_, ?_, (h1.lt i hi).2⟩
        · intro e
          exact own_blk_ne h1 j1 (by decide) (by rw [hi, e])
        · intro hy
          rcases h3 with e | e
          · exact (i3 i (e ▸ hi)).1 hy
          · rw [e] at hi
            cases hi
            have := hbY _ hy
            simp at this
            omega
      have h6 : Below w.heap.size w w3 := (bt i7 hbb).grown h2 (by have := (bt i7 hbb).size; exact this) (fun i e => (i2.lt i e).1)
      refine ⟨⟨j1.cell 0, j1.frozen 0⟩, v6, j1.set_ 0 v6, ?_, ?_, j2.far (by simp; omega) _, j3.far (by simp; omega) _, bs h6 (Nat.le_refl _) v6, ?_⟩
      · exact jown_kept h1 (fun i hi => Below.heap_setCell w3 ⟨w.heap.size, 0, none⟩ v6 i (hne6 i hi).1)
      · intro i hi
        refine ⟨(hne6 i hi).2.1, ?_⟩
        simpa [World.setCell] using (hne6 i hi).2.2
      · refine Keep.setCell (g := w.heap.size) (o := 0) ⟨?_, fun i hi => ?_⟩ n1 v6
        · exact Nat.le_trans hbb.size h2.size
        · exact (h2.block i (Nat.lt_of_lt_of_le (hbY i hi) hbb.size) (fun e => (i3 i e.symm).1 hi)).trans (hbb.block i (hbY i hi)))
    have HNY : Hid (¬ Y w.heap.size ∧ ¬ Y w1.heap.size ∧ ¬ Y (w1.heap.size + 1)) := Lib.hid ⟨n1, n2, n3⟩
    clear i1 i2 i3 i4 i5 n1 n2 n3 hpre hx4
    have hmx : Try.prog.follows .mixedOrders = true := by kernel_rfl
    gi_wp2_with (gi_at_builtin; go_must (refine wpListIn_append_own_at _ rfl _ _ 23 rfl w.heap.size 9 i0 (.string ⟨#[]⟩) 1 16 Try.underlying23 hi0 hz0 hz1 hz2 rfl (by decide) _ _ _ rfl hownA ⟨V'.heap.size, 0, none⟩ 1 1 [sv x.1] rfl rfl hnews (by simp [Value.oneCell']) (by unfold maxLen; omega) (by omega) (by have := i7.size; simp; omega) ?_); intro v6 w3 hown3 hgr3 _ hat3; have HE2 := Lib.hid (HE1.out v6 w3 hown3 hgr3 hat3); obtain ⟨g6, d6, rfl⟩ := ownsRow_succ hown3; have c6 := HE2.out.1.1; have f6 := HE2.out.1.2)
    obtain ⟨w4, hw4⟩ : ∃ w4, w3.setCell ⟨w.heap.size, 0, none⟩ (.slice (some ⟨g6, 0, none⟩) (pre.length + 1) d6) = w4 := ⟨_, rfl⟩
    rw [hw4] at HE2 ⊢
    obtain ⟨v4, k1, k2, k3, k4, k5, k6, k7⟩ := HE2.out.2
    obtain ⟨m1, m2, m3⟩ := HNY.out
    obtain ⟨b, hb⟩ : ∃ b, x.1.length + 10 = b := ⟨_, rfl⟩
    rw [hb] at HSO HLC hxe
    obtain ⟨a, ha⟩ : ∃ a, endP pre = a := ⟨_, rfl⟩
    rw [ha] at HLC hxe k4
    have hcast : ((a + b : Nat) : Int) = (a : Int) + (b : Int) := by omega
    have hsum : IntKind.i64.wrap ((a : Int) + (b : Int)) = (a : Int) + (b : Int) := by rw [IntKind.wrap_i64]; omega
    have c2 : w4.drew.cell? ⟨w1.heap.size, 0, none⟩ = some (.int .i64 (a : Int)) := k4.cell 0
    have f2 : w4.drew.frozen? ⟨w1.heap.size, 0, none⟩ = false := k4.frozen 0
    have k1' : Blk ((w4.setCell ⟨w1.heap.size, 0, none⟩ (.int .i64 ((a : Int) + (b : Int)))).drew) w.heap.size 23 #[v4] := k1.far (by simp; omega) _
    have k4' : Blk ((w4.setCell ⟨w1.heap.size, 0, none⟩ (.int .i64 ((a : Int) + (b : Int)))).drew) w1.heap.size 3 #[.int .i64 ((a : Int) + (b : Int))] := k4.set_ 0 _
    have k5' : Blk ((w4.setCell ⟨w1.heap.size, 0, none⟩ (.int .i64 ((a : Int) + (b : Int)))).drew) (w1.heap.size + 1) 22 #[.int .u64 (lastP q pre : Int)] := k5.far (by simp) _
    have c3 := k5'.cell 0
    have f3 := k5'.frozen 0
    have hne4 : ∀ i, v4.ownBlock = some i → i ≠ w1.heap.size ∧ i ≠ w1.heap.size + 1 := fun i hi => ⟨fun e => own_blk_ne k2 k4 (by decide) (by rw [hi, e]), fun e => own_blk_ne k2 k5 (by decide) (by rw [hi, e])⟩
    have HEND : Hid (ScanI q w w.heap.size w1.heap.size (w1.heap.size + 1) (pre ++ [x]) Y (((w4.setCell ⟨w1.heap.size, 0, none⟩ (.int .i64 ((a : Int) + (b : Int)))).setCell ⟨w1.heap.size + 1, 0, none⟩ (.int .u64 (x.2 : Int))).drew) ∧ Keep Y V' (((w4.setCell ⟨w1.heap.size, 0, none⟩ (.int .i64 ((a : Int) + (b : Int)))).setCell ⟨w1.heap.size + 1, 0, none⟩ (.int .u64 (x.2 : Int))).drew)) := Lib.hid (by
      obtain ⟨l1, l2, l3, l4⟩ := HLC.out
      refine ⟨⟨v4, k1'.far (by simp; omega) _, ?_, ?_, ?_, ?_, ⟨m1, m2, m3⟩, i6, ?_⟩, ?_⟩
      · rw [l3, l4]
        exact jown_kept (W := w4) k2 (fun i hi => (Below.heap_setCell _ ⟨w1.heap.size + 1, 0, none⟩ _ i (hne4 i hi).2).trans (Below.heap_setCell w4 ⟨w1.heap.size, 0, none⟩ _ i (hne4 i hi).1))
      · intro i hi
        refine ⟨(k3 i hi).1, ?_⟩
        have := (k3 i hi).2
        simpa [World.setCell] using this
      · rw [l1, hcast]
        exact k4'.far (by simp) _
      · rw [l2]
        exact k5'.set_ 0 _
      · exact ((k6.setCell (p := ⟨w1.heap.size, 0, none⟩) (by simp; omega) _).setCell (p := ⟨w1.heap.size + 1, 0, none⟩) (by simp; omega) _).drew
      · exact ((k7.setCell m2 _).setCell m3 _).drew)
    clear hw4 HE1 HE2 k1 k2 k3 k4 k5 k6 k7 k1' k4' k5' m1 m2 m3 hown3 hgr3 hat3 hownA hnews hne4 HNY hcast hb ha c0 c6 f6 i6 i7
    refine wpIn_region_any (by assumption) ?_
    change wpAnyIn _ _ _ _ _ _ _ _ _ (World.drew _)
    refine wpAnyIn_ready (rs := [0, 1]) (by kernel_rfl) (by simp) ?_
    refine AllReadyIn.cons (o := ⟨some 27, _, _, _, _, _⟩) rfl (fun K9 hK9 => ?_) ?_
    · skip
      go_simp
      refine hK9 _ _ ?_
      clear hK9 K9
      try simp only [Act.put, List.setIfInBounds_toArray, List.set_cons_zero, List.set_cons_succ]
      refine wpAnyIn_ready (rs := [1]) (by kernel_rfl) (by simp) ?_
      refine AllReadyIn.cons (o := ⟨some 28, _, _, _, _, _⟩) rfl (fun K9 hK9 => ?_) AllReadyIn.nil
      go_simp
      refine hK9 _ _ ?_
      clear hK9 K9
      try simp only [Act.put, List.setIfInBounds_toArray, List.set_cons_zero, List.set_cons_succ]
      refine wpAnyIn_ready (rs := [2]) (by kernel_rfl) (by simp) ?_
      refine AllReadyIn.cons (o := ⟨some 29, _, _, _, _, _⟩) rfl (fun K9 hK9 => ?_) AllReadyIn.nil
      go_simp
      refine ⟨trivial, ?_⟩
      refine (CallsIn.inRound l9 (callsIn_wide.2 (HSO.out _))).mono ?_
      rintro e w9 ⟨rfl, rfl⟩
      refine hK9 _ _ ?_
      clear hK9 K9
      try simp only [Act.put, List.setIfInBounds_toArray, List.set_cons_zero, List.set_cons_succ]
      refine wpAnyIn_ready (rs := [3]) (by kernel_rfl) (by simp) ?_
      refine AllReadyIn.cons (o := ⟨some 30, _, _, _, _, _⟩) rfl (fun K9 hK9 => ?_) AllReadyIn.nil
      go_simp
      refine hK9 _ _ ?_
      clear hK9 K9
      try simp only [Act.put, List.setIfInBounds_toArray, List.set_cons_zero, List.set_cons_succ]
      refine wpAnyIn_ready (rs := [4]) (by kernel_rfl) (by simp) ?_
      refine AllReadyIn.cons (o := ⟨none, _, _, _, _, _⟩) rfl (fun K9 hK9 => ?_) AllReadyIn.nil
      go_simp
      refine hK9 _ _ ?_
      clear hK9 K9
      try simp only [Act.put]
      refine wpAnyIn_done (by kernel_rfl) ?_ _
      simp only [Exit.then]
      go_at_K
      gi_wp2
      exact HEND.out
    refine AllReadyIn.cons (o := ⟨some 28, _, _, _, _, _⟩) rfl (fun K9 hK9 => ?_) AllReadyIn.nil
    go_simp
    refine hK9 _ _ ?_
    clear hK9 K9
    try simp only [Act.put, List.setIfInBounds_toArray, List.set_cons_zero, List.set_cons_succ]
    refine wpAnyIn_ready (rs := [0, 2]) (by kernel_rfl) (by simp) ?_
    refine AllReadyIn.cons (o := ⟨some 27, _, _, _, _, _⟩) rfl (fun K9 hK9 => ?_) ?_
    · skip
      go_simp
      refine hK9 _ _ ?_
      clear hK9 K9
      try simp only [Act.put, List.setIfInBounds_toArray, List.set_cons_zero, List.set_cons_succ]
      refine wpAnyIn_ready (rs := [2]) (by kernel_rfl) (by simp) ?_
      refine AllReadyIn.cons (o := ⟨some 29, _, _, _, _, _⟩) rfl (fun K9 hK9 => ?_) AllReadyIn.nil
      go_simp
      refine ⟨trivial, ?_⟩
      refine (CallsIn.inRound l9 (callsIn_wide.2 (HSO.out _))).mono ?_
      rintro e w9 ⟨rfl, rfl⟩
      refine hK9 _ _ ?_
      clear hK9 K9
      try simp only [Act.put, List.setIfInBounds_toArray, List.set_cons_zero, List.set_cons_succ]
      refine wpAnyIn_ready (rs := [3]) (by kernel_rfl) (by simp) ?_
      refine AllReadyIn.cons (o := ⟨some 30, _, _, _, _, _⟩) rfl (fun K9 hK9 => ?_) AllReadyIn.nil
      go_simp
      refine hK9 _ _ ?_
      clear hK9 K9
      try simp only [Act.put, List.setIfInBounds_toArray, List.set_cons_zero, List.set_cons_succ]
      refine wpAnyIn_ready (rs := [4]) (by kernel_rfl) (by simp) ?_
      refine AllReadyIn.cons (o := ⟨none, _, _, _, _, _⟩) rfl (fun K9 hK9 => ?_) AllReadyIn.nil
      go_simp
      refine hK9 _ _ ?_
      clear hK9 K9
      try simp only [Act.put]
      refine wpAnyIn_done (by kernel_rfl) ?_ _
      simp only [Exit.then]
      go_at_K
      gi_wp2
      exact HEND.out
    refine AllReadyIn.cons (o := ⟨some 29, _, _, _, _, _⟩) rfl (fun K9 hK9 => ?_) AllReadyIn.nil
    go_simp
    refine ⟨trivial, ?_⟩
    refine (CallsIn.inRound l9 (callsIn_wide.2 (HSO.out _))).mono ?_
    rintro e w9 ⟨rfl, rfl⟩
    refine hK9 _ _ ?_
    clear hK9 K9
    try simp only [Act.put, List.setIfInBounds_toArray, List.set_cons_zero, List.set_cons_succ]
    refine wpAnyIn_ready (rs := [0]) (by kernel_rfl) (by simp) ?_
    refine AllReadyIn.cons (o := ⟨some 27, _, _, _, _, _⟩) rfl (fun K9 hK9 => ?_) AllReadyIn.nil
    go_simp
    refine hK9 _ _ ?_
    clear hK9 K9
    try simp only [Act.put, List.setIfInBounds_toArray, List.set_cons_zero, List.set_cons_succ]
    refine wpAnyIn_ready (rs := [3]) (by kernel_rfl) (by simp) ?_
    refine AllReadyIn.cons (o := ⟨some 30, _, _, _, _, _⟩) rfl (fun K9 hK9 => ?_) AllReadyIn.nil
    go_simp
    refine hK9 _ _ ?_
    clear hK9 K9
    try simp only [Act.put, List.setIfInBounds_toArray, List.set_cons_zero, List.set_cons_succ]
    refine wpAnyIn_ready (rs := [4]) (by kernel_rfl) (by simp) ?_
    refine AllReadyIn.cons (o := ⟨none, _, _, _, _, _⟩) rfl (fun K9 hK9 => ?_) AllReadyIn.nil
    go_simp
    refine hK9 _ _ ?_
    clear hK9 K9
    try simp only [Act.put]
    refine wpAnyIn_done (by kernel_rfl) ?_ _
    simp only [Exit.then]
    go_at_K
    gi_wp2
    exact HEND.out
  case done =>
    rintro D Y W hD ⟨v, i1, i2, i3, i4, i5, ⟨n1, n2, n3⟩, i6, i7⟩ hbY hYD hdf
    obtain ⟨A, c, rfl, _⟩ := own_form i2
    have c1 : W.cell? ⟨w.heap.size, 0, none⟩ = some (.slice A zs.length c) := i1.cell 0
    have c2 : W.cell? ⟨w1.heap.size, 0, none⟩ = some (.int .i64 (endP zs : Int)) := i4.cell 0
    have c3 : W.cell? ⟨w1.heap.size + 1, 0, none⟩ = some (.int .u64 (lastP q zs : Int)) := i5.cell 0
    have HF : Hid (SR ((W.putObj D (.deferred none)).drew) A L) := Lib.hid (by
      have h1 := jown_kept (W' := W.putObj D (.deferred none)) i2 (fun i hi => World.putObj_heap_other (fun e => (i3 i hi).1 (e ▸ hYD)))
      rw [HP3.out] at h1
      exact (own_SR' h1 HP6.out.symm).drew)
    have HB : Hid (Below w.heap.size w ((W.putObj D (.deferred none)).drew)) := Lib.hid (i7.trans (belowK_b (w := w) (Nat.le_refl _) _ D _ _ (by omega) hdf rfl rfl)).drew
    rw [HP1.out] at c2
    rw [HP2.out] at c3
    rw [HP6.out] at c1
    have hdfD : W.drew.heap[D]? = some (.deferred (some [])) := hdf
    clear i1 i2 i3 i4 i5 i6 i7 n1 n2 n3 hbY hYD
    gi_wp2
    gi_region
    gi_wp2
    refine ⟨by simp, .inl ⟨_, _, rfl, run_takeDeferred hdfD, ?_⟩⟩
    refine ⟨.tuple #[.slice A L.length c, .int .i64 ((writeL k q L).length : Int), .int .u64 (lastL k q L : Int)], by kernel_rfl, A, c, rfl, HF.out, HB.out⟩
end Go.Proofs.Ytfmlpomnhkjolaa
/- The contract of stage 4's reference Same, at any two rows. -/
namespace Go.Proofs.Ytfmlpomnhkjolaa
open Go.RowKit

theorem jgetD_ext {L M : List (List UInt8)} {n : Nat} (hl : L.length = n) (hm : M.length = n) (h : ∀ j, j < n → L.getD j [] = M.getD j []) : L = M := by
  apply List.ext_getElem
  · rw [hl, hm]
  · intro i h1 h2
    have := h i (by omega)
    simpa [List.getD, h1, h2] using this
set_option maxRecDepth 100000 in
set_option maxHeartbeats 4000000 in
theorem jsame_any (A B : Option Addr) (c d n m : Nat) (L M : List (List UInt8)) (w : World) (hA : SR w A L) (hB : SR w B M) (hl : L.length = n) (hm : M.length = m) (hn : n ≤ 65536) (hn2 : m ≤ 65536) :
    Calls Try.prog 20 #[.slice A n c, .slice B m d] w fun e w' => e = .returned (.bool (decide (L = M))) ∧ Below w.heap.size w w' := by
  have HA := Lib.hid hA
  have HB := Lib.hid hB
  have HL := Lib.hid hl
  have HM := Lib.hid hm
  clear hA hB hl hm
  by_cases hnm : n = m
  · subst hnm
    clear hn2
    go_enter Try.func20, Try.ntmps20
    go_wp2_with fail
    go_loopw [13] (fun iv wr => ∃ k : Nat, k ≤ n ∧ iv = .int .i64 k ∧ Hid (∀ j, j < k → L.getD j [] = M.getD j []) ∧ Below w.heap.size w wr) (fun i _ => n - (intOf i).toNat)
    case atStart => exact ⟨0, Nat.zero_le _, rfl, Lib.hid (fun j hj => absurd hj (Nat.not_lt_zero j)), Below.refl _ _⟩
    case round =>
      obtain ⟨k, hk, rfl, HE, hb⟩ := hrel
      by_cases hlt : k < n
      · obtain ⟨g, off, rfl, c0⟩ := (HA.out.later hb) k (by rw [HL.out]; exact hlt)
        obtain ⟨g', off', rfl, d0⟩ := (HB.out.later hb) k (by rw [HM.out]; exact hlt)
        have i0 : (0 : Int) ≤ (k : Int) := by omega
        have i1 : (k : Int) < (n : Int) := by omega
        by_cases hxy : L.getD k [] = M.getD k []
        · have HE2 : Hid (∀ j, j < k + 1 → L.getD j [] = M.getD j []) := Lib.hid (fun j hj => by
            by_cases e : j = k
            · rw [e]; exact hxy
            · exact HE.out j (by omega))
          rw [← hxy] at d0
          clear hxy
          generalize L.getD k [] = x at c0 d0
          go_wp2_with fail
          go_quiet (fail)
          go_wp2
          exact ⟨⟨k + 1, by omega, by go_num, HE2, bdn' hb _⟩, by simp [intOf]; omega⟩
        · have HN : Hid (decide (L = M) = false) := Lib.hid (by simp; intro e; exact hxy (by rw [e]))
          have hx : (L.getD k [] == M.getD k []) = false := by simp only [beq_eq_false_iff_ne]; exact hxy
          clear hxy
          generalize L.getD k [] = x at c0 hx
          generalize M.getD k [] = y at d0 hx
          have hx2 : (x != y) = true := by simp [bne, hx]
          go_wp2_with fail
          go_quiet (fail)
          go_wp2
          go_ret
          rw [HN.out]
          exact ⟨rfl, bdn' hb _⟩
      · obtain rfl : k = n := by omega
        have HY : Hid (decide (L = M) = true) := Lib.hid (by simp; exact jgetD_ext HL.out HM.out HE.out)
        go_wp2
        go_ret
        rw [HY.out]
        exact ⟨rfl, hb⟩
  · have HN : Hid (decide (L = M) = false) := Lib.hid (by simp; intro e; exact hnm (by rw [← HL.out, ← HM.out, e]))
    have h1 : (n == m) = false := by simp; exact hnm
    have h2 : ((n : Int) == (m : Int)) = false := by simp; omega
    have h3 : ((n : Int) != (m : Int)) = true := by simp; omega
    clear hnm
    go_enter Try.func20, Try.ntmps20
    go_wp2_with fail
    go_ret
    rw [HN.out]
    exact ⟨rfl, Below.refl _ _⟩
end Go.Proofs.Ytfmlpomnhkjolaa
