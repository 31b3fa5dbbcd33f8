/- DeviceReads is true of every device, number, text and keep, and leaves them as they were. -/
import Derived.Test.YtiibgbdhbamajaaDLawA
import Derived.Test.YtiibgbdhbamajaaDRCrash
import Derived.Test.YtiibgbdhbamajaaDOpen
import Derived.Test.YtiibgbdhbamajaaDReadsM
import Derived.BigQuiet
import Derived.Deep.DeepCutAuto
import Derived.Deep.CutRange
namespace Go.Proofs.Ytiibgbdhbamajaa
open Go.ChangeShapes Go.WideShapes Go.ChangeAt Go.RowKit Go.Joins Go.Deep

set_option maxRecDepth 100000 in
set_option maxHeartbeats 4000000 in
theorem reads_no (A B : Option Addr) (ca cb n0 m0 n m : Nat) (k : Int) (t : List UInt8) (K : Nat) (code : Int) (w : World) (hn0 : min n0 70 = n) (hm0 : min m0 65 = m) (hca : n0 ≤ ca) (hcb : m0 ≤ cb) (hc : code ≠ 0)
    (hW : ∀ W, Below w.heap.size w W → Calls Try.prog 14 #[dv A n ca B m cb, .int .i64 k, sv t] W fun e w' => e = .returned (.tuple #[dv none 0 0 none 0 0, .int .i64 code]) ∧ Below W.heap.size W w') :
    Calls Try.prog 6 #[dv A n0 ca B m0 cb, .int .i64 k, sv t, .int .u64 (K : Int)] w fun e w' => e = .returned (.bool true) ∧ Below w.heap.size w w' := by
  have HF := Lib.hid (fun W => few_any A B ca cb n0 m0 W hca hcb)
  rw [hn0, hm0] at HF
  have HWR := Lib.hid hW
  have HAL := Lib.hid alive_any
  have hc1 : (code == 0) = false := by simpa using hc
  have hc2 : (code != 0) = true := by simpa using hc
  clear hn0 hm0 hca hcb hW hc
  have k0 := Blk.new w 25 #[.slice A n0 ca, .slice B m0 cb]
  go_enter Try.func6, Try.ntmps6
  go_wp2_with fail
  refine (HF.out _).mono ?_
  rintro e w1 ⟨rfl, hb1⟩
  have k1 := k0.below hb1
  have hB1 := bt (ba (Below.refl w.heap.size w) (.cells #[.slice A n0 ca, .slice B m0 cb] 25)) hb1
  obtain ⟨_, _, f0, f1⟩ := dcells k1
  obtain ⟨c0, c1, _, _⟩ := dcells k1
  go_upto_region 2 with fail
  have k2 : Hid (Blk _ w.heap.size 25 #[.slice A n ca, .slice B m cb]) := Lib.hid ((k1.set_ 0 (.slice A n ca)).set_ 1 (.slice B m cb))
  have hB2 := Lib.hid (bs (bs hB1 (b := w.heap.size) (o := 0) (by omega) (.slice A n ca)) (b := w.heap.size) (o := 1) (by omega) (.slice B m cb))
  generalize (w1.setCell ⟨w.heap.size, 0, none⟩ (.slice A n ca)).setCell ⟨w.heap.size, 1, none⟩ (.slice B m cb) = w2 at k2 hB2 ⊢
  clear k0 k1 hb1 hB1 f0 f1 c0 c1
  obtain ⟨c0, c1, _, _⟩ := dcells k2.out
  go_wp2_with fail
  refine (HWR.out _ hB2.out).mono ?_
  rintro e w3 ⟨rfl, hb3⟩
  have k4 := Lib.hid (Blk.new w3 25 #[.slice none 0 0, .slice none 0 0])
  have hB3 := Lib.hid (ba (bt hB2.out hb3) (.cells #[.slice none 0 0, .slice none 0 0] 25))
  clear c0 c1 k2 hb3 hB2
  go_wp2_with fail
  refine (HAL.out _).mono ?_
  rintro e w4 ⟨rfl, hb4⟩
  obtain ⟨c0, c1, _, _⟩ := dcells (k4.out.below hb4)
  go_wp2_with fail
  go_ret
  exact ⟨rfl, bt hB3.out hb4⟩

set_option maxRecDepth 100000 in
set_option maxHeartbeats 8000000 in
theorem reads_yes (A B : Option Addr) (ca cb n0 m0 n m : Nat) (S : List (List UInt8)) (C : List PutL) (k : Nat) (t : List UInt8) (K : Nat) (w : World) (hA : SR w A S) (hB : PR w B C) (hn : S.length = n) (hm : C.length = m) (hn0 : min n0 70 = n) (hm0 : min m0 65 = m) (hca : n0 ≤ ca) (hcb : m0 ≤ cb) (hr : rightB S C = true) (hk : k < n) (ht : t.length ≤ 128) (hm6 : m ≠ 60) (h0 : A = none → ca = 0) (h1 : B = none → cb = 0) (hK : K < 18446744073709551616) :
    Calls Try.prog 6 #[dv A n0 ca B m0 cb, .int .i64 (k : Int), sv t, .int .u64 (K : Int)] w fun e w' => e = .returned (.bool true) ∧ Below w.heap.size w w' := by
  have HF := Lib.hid (fun W => few_any A B ca cb n0 m0 W hca hcb)
  rw [hn0, hm0] at HF
  have HAL := Lib.hid alive_any
  obtain ⟨s1, s2, s3, _, _⟩ := rightB_yes hr
  rw [hn] at s1 s2
  rw [hm] at s3
  have hh : hasB n (k : Int) = true := (hasB_iff n (k : Int)).2 ⟨by omega, by omega⟩
  have hr2 : rightB S (C ++ [((k : Int), t)]) = true := rightB_more hr ⟨by omega, by omega⟩ ht (by omega)
  have hm2 : (C ++ [((k : Int), t)]).length = m + 1 := by simp [hm]
  have HMORE : Hid (∀ i, readD S (C ++ [((k : Int), t)]) i = if k = i then t else readD S C i) := Lib.hid fun i => by
    rw [readD_more]
    by_cases h : k = i
    · subst h; simp
    · have h2 : ¬ ((k : Int) = (i : Int)) := by omega
      simp [h, h2]
  have HWR := Lib.hid (fun W (hb : Below w.heap.size w W) => write_yes A B ca cb n m S C (k : Int) t W (hA.later hb) (hB.later hb) hn hm hr hh ht hm6 h0 h1)
  generalize C ++ [((k : Int), t)] = C2 at hr2 hm2 HMORE HWR
  have HBA := Lib.hid (fun (A3 B3 : Option Addr) (c3 d3 : Nat) (W : World) (h1 : SR W A3 S) (h2 : PR W B3 C2) => barrier_yes A3 B3 c3 d3 n (m + 1) S C2 W h1 h2 hn hm2 hr2)
  have HCR := Lib.hid (fun (A3 B3 : Option Addr) (c3 d3 : Nat) (W : World) (h1 : SR W A3 S) (h2 : PR W B3 C2) => crash_yes A3 B3 c3 d3 n (m + 1) S C2 K W h1 h2 hn hm2 hr2 hK)
  have HCN : Hid (∀ (A3 B3 : Option Addr) (c3 d3 : Nat) (W : World), SR W A3 S → PR W B3 C2 → Calls Try.prog 20 #[dv A3 n c3 B3 (m + 1) d3, .int .u64 0] W fun e w' => ∃ A' c', e = .returned (.tuple #[dv A' n c' none 0 0, .int .i64 0]) ∧ w'.ownsRow W.heap.size 9 1 (.slice A' n c') n (S.map sv) ∧ Below W.heap.size W w') := Lib.hid (fun A3 B3 c3 d3 W h1 h2 => by
    have := crash_yes A3 B3 c3 d3 n (m + 1) S C2 0 W h1 h2 hn hm2 hr2 (by omega)
    rw [keptD_none, storeD_none] at this
    exact this)
  have HRD := Lib.hid (fun W (hb : Below w.heap.size w W) (i : Nat) (hi : i < n) => read_yes A B ca cb n m S C i W (hA.later hb) (hB.later hb) hn hm hr hi)
  have HRW := Lib.hid (fun (A3 B3 : Option Addr) (c3 d3 : Nat) (W : World) (h1 : SR W A3 S) (h2 : PR W B3 C2) (i : Nat) (hi : i < n) => read_yes A3 B3 c3 d3 n (m + 1) S C2 i W h1 h2 hn hm2 hr2 hi)
  have hl1 : (storeD S C2).length = n := by rw [storeD_len, hn]
  have hl2 : (storeD S (keptD K C2)).length = n := by rw [storeD_len, hn]
  have HRB : Hid (∀ (A3 : Option Addr) (c3 : Nat) (W : World), SR W A3 (storeD S C2) → ∀ i, i < n → Calls Try.prog 15 #[dv A3 n c3 none 0 0, .int .i64 (i : Int)] W fun e w' => e = .returned (.tuple #[sv (readD S C2 i), .int .i64 0]) ∧ Below W.heap.size W w') := Lib.hid (fun A3 c3 W h1 i hi => by
    have := read_yes A3 none c3 0 n 0 (storeD S C2) [] i W h1 (PR.nil _ _) hl1 rfl (rightB_store hr2) hi
    rw [readD_none, storeD_at _ _ (by omega)] at this
    exact this)
  have HSO : Hid (∀ i, i < n → someB ((storeD S (keptD K C2)).getD i []) (S.getD i []) C2 i (m + 1) = true) := Lib.hid fun i hi => by
    have := someB_all S C2 K i (by omega)
    rwa [hm2] at this
  have HSM : Hid (∀ (A1 : Option Addr) (c1 : Nat) (W : World), Below w.heap.size w W → SR W A1 S → Calls Try.prog 12 #[dv A1 n c1 none 0 0, dv A n ca none 0 0] W fun e w' => e = .returned (.bool true) ∧ Below W.heap.size W w') := Lib.hid (fun A1 c1 W hb h1 => by
    have := dsame_any A1 A none none c1 ca 0 0 n n 0 0 S S [] [] W h1 (hA.later hb) (PR.nil _ _) (PR.nil _ _) hn hn rfl rfl (by omega) (by omega)
    simpa using this)
  have HSB : Hid (∀ W, Below w.heap.size w W → SR W A S) := Lib.hid fun W hb => hA.later hb
  generalize storeD S C2 = T1 at HBA HRB hl1
  generalize storeD S (keptD K C2) = T2 at HCR hl2 HSO
  have HL := Lib.hid (And.intro hl1 hl2)
  have HN := Lib.hid hn
  have HM2 := Lib.hid hm2
  have HSMO : Hid (∀ x s i j, j < m + 1 → someB x s C2 i (j + 1) = (someB x s C2 i j || ((C2.getD j (0, [])).1 == (i : Int) && (C2.getD j (0, [])).2 == x))) := Lib.hid fun x s i j hj => someB_more x s C2 i j (by omega)
  have s4 : m + 1 ≤ 61 := by omega
  clear hA hB hn hm hn0 hm0 hca hcb hr hm6 h0 h1 hK hh hr2 hm2 hl1 hl2 ht hk s3
  obtain ⟨mm, hmm⟩ : ∃ mm, m + 1 = mm := ⟨_, rfl⟩
  rw [hmm] at HWR HBA HCR HCN HRW HSO HM2 HSMO s4
  clear hmm
  have k0 := Blk.new w 25 #[.slice A n0 ca, .slice B m0 cb]
  go_enter Try.func6, Try.ntmps6
  go_wp2_with fail
  refine (HF.out _).mono ?_
  rintro e w1 ⟨rfl, hb1⟩
  have k1 := k0.below hb1
  have hB1 := bt (ba (Below.refl w.heap.size w) (.cells #[.slice A n0 ca, .slice B m0 cb] 25)) hb1
  obtain ⟨_, _, f0, f1⟩ := dcells k1
  obtain ⟨c0, c1, _, _⟩ := dcells k1
  go_upto_region 2 with fail
  have k2 : Hid (Blk _ w.heap.size 25 #[.slice A n ca, .slice B m cb]) := Lib.hid ((k1.set_ 0 (.slice A n ca)).set_ 1 (.slice B m cb))
  have hB2 := Lib.hid (bs (bs hB1 (b := w.heap.size) (o := 0) (by omega) (.slice A n ca)) (b := w.heap.size) (o := 1) (by omega) (.slice B m cb))
  generalize (w1.setCell ⟨w.heap.size, 0, none⟩ (.slice A n ca)).setCell ⟨w.heap.size, 1, none⟩ (.slice B m cb) = w2 at k2 hB2 ⊢
  clear k0 k1 hb1 hB1 f0 f1 c0 c1
  obtain ⟨c0, c1, _, _⟩ := dcells k2.out
  go_wp2_with fail
  refine (HWR.out _ hB2.out).mono ?_
  rintro e w3 ⟨A3, c3, B3, d3, rfl, hs3, hp3, hb3⟩
  have r3 := Lib.hid (hs3.later (ba (Below.refl _ _) (.cells #[.slice A3 n c3, .slice B3 mm d3] 25)))
  have p3 := Lib.hid (hp3.later (ba (Below.refl _ _) (.cells #[.slice A3 n c3, .slice B3 mm d3] 25)))
  have k3 := Lib.hid ((k2.out.below hb3).alloc (.cells #[.slice A3 n c3, .slice B3 mm d3] 25))
  have kw := Lib.hid (Blk.new w3 25 #[.slice A3 n c3, .slice B3 mm d3])
  have hB3 := Lib.hid (ba (bt hB2.out hb3) (.cells #[.slice A3 n c3, .slice B3 mm d3] 25))
  clear c0 c1 k2 hb3 hB2 hs3 hp3
  go_upto_region 5 with fail
  obtain ⟨gw, hgw⟩ : ∃ gw, w3.heap.size = gw := ⟨_, rfl⟩
  generalize hv3 : w3.alloc (.cells #[.slice A3 n c3, .slice B3 mm d3] 25) = v3 at r3 p3 k3 kw hB3 ⊢
  rw [hgw] at kw ⊢
  clear hv3 hgw
  obtain ⟨c0, c1, _, _⟩ := dcells kw.out
  go_wp2_with fail
  refine (HBA.out A3 B3 c3 d3 _ r3.out p3.out).mono ?_
  rintro e w4 ⟨A4, c4, rfl, ho, hb⟩
  have hbb := hb.alloc (Nat.le_trans (Nat.le_refl _) hb.size) (.cells #[.slice A4 n c4, .slice none 0 0] 25)
  have r4 := Lib.hid (r3.out.later hbb)
  have p4 := Lib.hid (p3.out.later hbb)
  have k4 := Lib.hid (k3.out.below hbb)
  have kw := Lib.hid (kw.out.below hbb)
  have k4' := Lib.hid (Blk.new w4 25 #[.slice A4 n c4, .slice none 0 0])
  have q4 := Lib.hid ((own_SR' ho HL.out.1).later (ba (Below.refl _ _) (.cells #[.slice A4 n c4, .slice none 0 0] 25)))
  have hB4 := Lib.hid (bt hB3.out hbb)
  clear c0 c1 hb hbb ho r3 p3 k3 hB3
  go_upto_region 6 with fail
  obtain ⟨g4, hg⟩ : ∃ g, w4.heap.size = g := ⟨_, rfl⟩
  generalize hv : w4.alloc (.cells #[.slice A4 n c4, .slice none 0 0] 25) = v4 at *
  rw [hg] at k4' ⊢
  clear hv hg
  obtain ⟨c0, c1, _, _⟩ := dcells kw.out
  go_wp2_with fail
  refine (HCR.out A3 B3 c3 d3 _ r4.out p4.out).mono ?_
  rintro e w5 ⟨A5, c5, rfl, ho, hb⟩
  have hbb := hb.alloc (Nat.le_trans (Nat.le_refl _) hb.size) (.cells #[.slice A5 n c5, .slice none 0 0] 25)
  have r5 := Lib.hid (r4.out.later hbb)
  have p5 := Lib.hid (p4.out.later hbb)
  have k5 := Lib.hid (k4.out.below hbb)
  have kw := Lib.hid (kw.out.below hbb)
  have k4' := Lib.hid (k4'.out.below hbb)
  have q4 := Lib.hid (q4.out.later hbb)
  have k5' := Lib.hid (Blk.new w5 25 #[.slice A5 n c5, .slice none 0 0])
  have q5 := Lib.hid ((own_SR' ho HL.out.2).later (ba (Below.refl _ _) (.cells #[.slice A5 n c5, .slice none 0 0] 25)))
  have hB5 := Lib.hid (bt hB4.out hbb)
  clear c0 c1 hb hbb ho r4 p4 k4 hB4
  go_upto_region 7 with fail
  obtain ⟨g5, hg⟩ : ∃ g, w5.heap.size = g := ⟨_, rfl⟩
  generalize hv : w5.alloc (.cells #[.slice A5 n c5, .slice none 0 0] 25) = v5 at *
  rw [hg] at k5' ⊢
  clear hv hg
  obtain ⟨c0, c1, _, _⟩ := dcells kw.out
  go_wp2_with fail
  refine (HCN.out A3 B3 c3 d3 _ r5.out p5.out).mono ?_
  rintro e w6 ⟨A6, c6, rfl, ho, hb⟩
  have hbb := hb.alloc (Nat.le_trans (Nat.le_refl _) hb.size) (.cells #[.slice A6 n c6, .slice none 0 0] 25)
  have r6 := Lib.hid (r5.out.later hbb)
  have p6 := Lib.hid (p5.out.later hbb)
  have k6 := Lib.hid (k5.out.below hbb)
  have kw := Lib.hid (kw.out.below hbb)
  have k4' := Lib.hid (k4'.out.below hbb)
  have q4 := Lib.hid (q4.out.later hbb)
  have k5' := Lib.hid (k5'.out.below hbb)
  have q5 := Lib.hid (q5.out.later hbb)
  have k6' := Lib.hid (Blk.new w6 25 #[.slice A6 n c6, .slice none 0 0])
  have q6 := Lib.hid ((own_SR' ho HN.out).later (ba (Below.refl _ _) (.cells #[.slice A6 n c6, .slice none 0 0] 25)))
  have hB6 := Lib.hid (bt hB5.out hbb)
  clear c0 c1 hb hbb ho r5 p5 k5 hB5
  go_upto_region 8 with fail
  obtain ⟨g6, hg⟩ : ∃ g, w6.heap.size = g := ⟨_, rfl⟩
  generalize hv : w6.alloc (.cells #[.slice A6 n c6, .slice none 0 0] 25) = v6 at *
  rw [hg] at k6' ⊢
  clear hv hg
  obtain ⟨c0, c1, _, _⟩ := dcells kw.out
  obtain ⟨d0, d1, _, _⟩ := dcells k4'.out
  obtain ⟨e0, e1, _, _⟩ := dcells k5'.out
  obtain ⟨f0, f1, _, _⟩ := dcells k6'.out
  obtain ⟨h0, h1, _, _⟩ := dcells k6.out
  go_wp2_with fail
  refine (HSM.out A6 c6 _ hB6.out q6.out).mono ?_
  rintro e w9 ⟨rfl, hb9⟩
  have hB9 := Lib.hid (bt hB6.out hb9)
  have ks := Lib.hid hb9
  go_wp2_with fail
  refine (HAL.out _).mono ?_
  rintro e wa ⟨rfl, hba⟩
  have hB10 := Lib.hid (bt hB9.out hba)
  have hbx := bt ks.out hba
  have Kd := Lib.hid (k6.out.below hbx)
  have Kw := Lib.hid (kw.out.below hbx)
  have Kb := Lib.hid (k4'.out.below hbx)
  have Kc := Lib.hid (k5'.out.below hbx)
  have R := Lib.hid (r6.out.later hbx)
  have P := Lib.hid (p6.out.later hbx)
  have Qb := Lib.hid (q4.out.later hbx)
  have Qc := Lib.hid (q5.out.later hbx)
  clear c0 c1 d0 d1 e0 e1 f0 f1 h0 h1 hbx ks hb9 hB9 hba HWR HBA HCR HCN HSM HAL HF q4 q5 q6 k4' k5' k6' k6 kw r6 p6 hB6
  obtain ⟨c0, c1, _, _⟩ := dcells Kd.out
  go_upto_region 10 with fail
  go_wp2_with fail
  clear c0 c1
  go_loopw [109] (fun iv wr => ∃ i : Nat, i ≤ n ∧ iv = .int .i64 (i : Int) ∧ Hid (Below wa.heap.size wa wr)) (fun i _ => n - (intOf i).toNat)
  case atStart => exact ⟨0, Nat.zero_le _, rfl, Lib.hid (Below.refl _ _)⟩
  case round =>
    obtain ⟨i, hi, rfl, HBE⟩ := hrel
    by_cases hlt : i < n
    · obtain ⟨c0, c1, _, _⟩ := dcells (Kd.out.below HBE.out)
      have i0 : (0 : Int) ≤ (i : Int) := by omega
      have i1 : (i : Int) < (n : Int) := by omega
      have HMOi := HMORE.out i
      obtain ⟨x, hx⟩ : ∃ x, readD S C i = x := ⟨_, rfl⟩
      obtain ⟨y, hy⟩ : ∃ y, readD S C2 i = y := ⟨_, rfl⟩
      have HR1 := Lib.hid (HRD.out)
      rw [hx, hy] at HMOi
      have HRD1 : Hid (∀ W, Below w.heap.size w W → Calls Try.prog 15 #[dv A n ca B m cb, .int .i64 (i : Int)] W fun e w' => e = .returned (.tuple #[sv x, .int .i64 0]) ∧ Below W.heap.size W w') := Lib.hid (fun W hb => by have := HRD.out W hb i hlt; rwa [hx] at this)
      have HRW1 : Hid (∀ W, SR W A3 S → PR W B3 C2 → Calls Try.prog 15 #[dv A3 n c3 B3 mm d3, .int .i64 (i : Int)] W fun e w' => e = .returned (.tuple #[sv y, .int .i64 0]) ∧ Below W.heap.size W w') := Lib.hid (fun W a b => by have := HRW.out A3 B3 c3 d3 W a b i hlt; rwa [hy] at this)
      have HRB1 : Hid (∀ W, SR W A4 T1 → Calls Try.prog 15 #[dv A4 n c4 none 0 0, .int .i64 (i : Int)] W fun e w' => e = .returned (.tuple #[sv y, .int .i64 0]) ∧ Below W.heap.size W w') := Lib.hid (fun W a => by have := HRB.out A4 c4 W a i hlt; rwa [hy] at this)
      clear hx hy HR1
      by_cases hki : k = i
      · have hki2 := hki.symm
        clear hki
        subst hki2
        rw [if_pos rfl] at HMOi
        subst HMOi
        go_wp2_with fail
        refine (HRD1.out _ (bt hB10.out HBE.out)).mono ?_
        rintro e w11 ⟨rfl, hb1⟩
        have HB11 := Lib.hid (bt HBE.out hb1)
        clear hb1 c0 c1
        obtain ⟨c0, c1, _, _⟩ := dcells (Kw.out.below HB11.out)
        go_wp2_with fail
        refine (HRW1.out _ (R.out.later HB11.out) (P.out.later HB11.out)).mono ?_
        rintro e w12 ⟨rfl, hb2⟩
        have HB12 := Lib.hid (bt HB11.out hb2)
        clear hb2 c0 c1
        obtain ⟨c0, c1, _, _⟩ := dcells (Kb.out.below HB12.out)
        go_wp2_with fail
        refine (HRB1.out _ (Qb.out.later HB12.out)).mono ?_
        rintro e w13 ⟨rfl, hb3⟩
        have HB13 := Lib.hid (bt HB12.out hb3)
        clear hb3 c0 c1 HB11 HB12 HRD1 HRW1 HRB1
        go_upto_region 18 with fail
        obtain ⟨g2, off2, hA5, t00⟩ := Qc.out i (by rw [HL.out.2]; exact hlt)
        obtain ⟨g1, off1, hA1, s00⟩ := (HSB.out _ hB10.out) i (by rw [HN.out]; exact hlt)
        subst hA5
        subst hA1
        have HSOi := HSO.out i hlt
        have HSMi := Lib.hid (fun j hj => HSMO.out (T2.getD i []) (S.getD i []) i j hj)
        generalize T2.getD i [] = x2 at t00 HSOi HSMi
        generalize S.getD i [] = x1 at s00 HSOi HSMi
        have HTX : Hid (∀ W, Below wa.heap.size wa W → W.cell? ⟨g2, off2 + i, none⟩ = some (sv x2)) := Lib.hid (fun W hb => cell_later hb t00)
        have t0 := HTX.out _ HB13.out
        have s0 := cell_later HB13.out s00
        have HSOj := Lib.hid HSOi
        obtain ⟨d0, d1, _, _⟩ := dcells (Kc.out.below HB13.out)
        obtain ⟨e0, e1, _, _⟩ := dcells (Kd.out.below HB13.out)
        clear HSOi t00 s00
        go_wp2_with fail
        go_quiet (fail)
        go_upto_region 19 with fail
        obtain ⟨wq, hwq⟩ : ∃ wq, w13.drewN nq = wq := ⟨_, rfl⟩
        have HBQ : Hid (Below wa.heap.size wa wq) := Lib.hid (by rw [← hwq]; exact bd_q HB13.out nq)
        rw [hwq]
        clear hwq d0 d1 e0 e1 s0 t0 HB13
        obtain ⟨c0, c1, _, _⟩ := dcells (Kw.out.below HBQ.out)
        go_wp2_with fail
        clear c0 c1
        go_loopw [24, 179] (fun ov jv wr => ∃ (j : Nat) (b : Bool), j ≤ mm ∧ jv = .int .i64 (j : Int) ∧ ov = .bool b ∧ Hid (b = someB x2 x1 C2 i j) ∧ Hid (Below wa.heap.size wa wr)) (fun _ j _ => mm - (intOf j).toNat)
        case atStart => exact ⟨0, x2 == x1, Nat.zero_le _, rfl, rfl, Lib.hid (by rw [someB_zero]), HBQ⟩
        case round =>
          obtain ⟨j, b, hj, rfl, rfl, HBb, HBR⟩ := hrel
          by_cases hjl : j < mm
          · obtain ⟨g3, off3, hB3, p0, p1⟩ := (P.out.later HBR.out) j (by rw [HM2.out]; exact hjl)
            subst hB3
            have HSMj := Lib.hid (HSMi.out j hjl)
            generalize C2.getD j (0, []) = z at p0 p1 HSMj
            obtain ⟨zk, zs⟩ := z
            simp only at p0 p1
            have j0 : (0 : Int) ≤ (j : Int) := by omega
            have j1 : (j : Int) < (mm : Int) := by omega
            have HBP : Hid (Below wa.heap.size wa (wr.alloc (.cells #[.int .i64 zk, sv zs] 47))) := Lib.hid (ba HBR.out _)
            obtain ⟨d0, d1, _, _⟩ := dcells (Kc.out.below HBP.out)
            have t0 := HTX.out _ HBP.out
            cases b with
            | true =>
              have HNX : Hid (true = someB x2 x1 C2 i (j + 1)) := Lib.hid (by rw [HSMj.out, ← HBb.out]; simp)
              clear HSMj
              go_wp2_with fail
              go_quiet (fail)
              go_wp2
              exact ⟨⟨j + 1, true, by omega, by go_num, rfl, HNX, Lib.hid (bd_q HBP.out _)⟩, by simp [intOf]; omega⟩
            | false =>
              by_cases hz : zk = (i : Int)
              · have HNX : Hid ((zs == x2) = someB x2 x1 C2 i (j + 1)) := Lib.hid (by rw [HSMj.out, ← HBb.out, hz]; simp)
                subst hz
                clear HSMj
                go_wp2_with fail
                go_quiet (fail)
                go_wp2
                exact ⟨⟨j + 1, zs == x2, by omega, by go_num, rfl, HNX, Lib.hid (bd_q HBP.out _)⟩, by simp [intOf]; omega⟩
              · have hz2 : (zk == (i : Int)) = false := by simpa using hz
                have HNX : Hid (false = someB x2 x1 C2 i (j + 1)) := Lib.hid (by rw [HSMj.out, ← HBb.out, hz2]; simp)
                clear HSMj hz
                go_wp2_with fail
                go_quiet (fail)
                go_wp2
                exact ⟨⟨j + 1, false, by omega, by go_num, rfl, HNX, Lib.hid (bd_q HBP.out _)⟩, by simp [intOf]; omega⟩
          · obtain rfl : j = mm := by omega
            have hbt : b = true := by rw [HBb.out, HSOj.out]
            subst hbt
            go_wp2
            exact ⟨⟨i + 1, by omega, by go_num, HBR⟩, by simp [intOf]; omega⟩
      · rw [if_neg hki] at HMOi
        subst HMOi
        have e1 : ((i : Int) == (k : Int)) = false := by simp; omega
        have e2 : ((i : Int) != (k : Int)) = true := by simp; omega
        have e3 : (i == k) = false := by simp; omega
        have e4 : (i != k) = true := by simp; omega
        clear hki
        go_wp2_with fail
        refine (HRD1.out _ (bt hB10.out HBE.out)).mono ?_
        rintro e w11 ⟨rfl, hb1⟩
        have HB11 := Lib.hid (bt HBE.out hb1)
        clear hb1 c0 c1
        obtain ⟨c0, c1, _, _⟩ := dcells (Kw.out.below HB11.out)
        go_wp2_with fail
        refine (HRW1.out _ (R.out.later HB11.out) (P.out.later HB11.out)).mono ?_
        rintro e w12 ⟨rfl, hb2⟩
        have HB12 := Lib.hid (bt HB11.out hb2)
        clear hb2 c0 c1
        obtain ⟨c0, c1, _, _⟩ := dcells (Kb.out.below HB12.out)
        go_wp2_with fail
        refine (HRB1.out _ (Qb.out.later HB12.out)).mono ?_
        rintro e w13 ⟨rfl, hb3⟩
        have HB13 := Lib.hid (bt HB12.out hb3)
        clear hb3 c0 c1 HB11 HB12 HRD1 HRW1 HRB1
        go_upto_region 18 with fail
        obtain ⟨g2, off2, hA5, t00⟩ := Qc.out i (by rw [HL.out.2]; exact hlt)
        obtain ⟨g1, off1, hA1, s00⟩ := (HSB.out _ hB10.out) i (by rw [HN.out]; exact hlt)
        subst hA5
        subst hA1
        have HSOi := HSO.out i hlt
        have HSMi := Lib.hid (fun j hj => HSMO.out (T2.getD i []) (S.getD i []) i j hj)
        generalize T2.getD i [] = x2 at t00 HSOi HSMi
        generalize S.getD i [] = x1 at s00 HSOi HSMi
        have HTX : Hid (∀ W, Below wa.heap.size wa W → W.cell? ⟨g2, off2 + i, none⟩ = some (sv x2)) := Lib.hid (fun W hb => cell_later hb t00)
        have t0 := HTX.out _ HB13.out
        have s0 := cell_later HB13.out s00
        have HSOj := Lib.hid HSOi
        obtain ⟨d0, d1, _, _⟩ := dcells (Kc.out.below HB13.out)
        obtain ⟨e0, e1, _, _⟩ := dcells (Kd.out.below HB13.out)
        clear HSOi t00 s00
        go_wp2_with fail
        go_quiet (fail)
        go_upto_region 19 with fail
        obtain ⟨wq, hwq⟩ : ∃ wq, w13.drewN nq = wq := ⟨_, rfl⟩
        have HBQ : Hid (Below wa.heap.size wa wq) := Lib.hid (by rw [← hwq]; exact bd_q HB13.out nq)
        rw [hwq]
        clear hwq d0 d1 e0 e1 s0 t0 HB13
        obtain ⟨c0, c1, _, _⟩ := dcells (Kw.out.below HBQ.out)
        go_wp2_with fail
        clear c0 c1
        go_loopw [24, 179] (fun ov jv wr => ∃ (j : Nat) (b : Bool), j ≤ mm ∧ jv = .int .i64 (j : Int) ∧ ov = .bool b ∧ Hid (b = someB x2 x1 C2 i j) ∧ Hid (Below wa.heap.size wa wr)) (fun _ j _ => mm - (intOf j).toNat)
        case atStart => exact ⟨0, x2 == x1, Nat.zero_le _, rfl, rfl, Lib.hid (by rw [someB_zero]), HBQ⟩
        case round =>
          obtain ⟨j, b, hj, rfl, rfl, HBb, HBR⟩ := hrel
          by_cases hjl : j < mm
          · obtain ⟨g3, off3, hB3, p0, p1⟩ := (P.out.later HBR.out) j (by rw [HM2.out]; exact hjl)
            subst hB3
            have HSMj := Lib.hid (HSMi.out j hjl)
            generalize C2.getD j (0, []) = z at p0 p1 HSMj
            obtain ⟨zk, zs⟩ := z
            simp only at p0 p1
            have j0 : (0 : Int) ≤ (j : Int) := by omega
            have j1 : (j : Int) < (mm : Int) := by omega
            have HBP : Hid (Below wa.heap.size wa (wr.alloc (.cells #[.int .i64 zk, sv zs] 47))) := Lib.hid (ba HBR.out _)
            obtain ⟨d0, d1, _, _⟩ := dcells (Kc.out.below HBP.out)
            have t0 := HTX.out _ HBP.out
            cases b with
            | true =>
              have HNX : Hid (true = someB x2 x1 C2 i (j + 1)) := Lib.hid (by rw [HSMj.out, ← HBb.out]; simp)
              clear HSMj
              go_wp2_with fail
              go_quiet (fail)
              go_wp2
              exact ⟨⟨j + 1, true, by omega, by go_num, rfl, HNX, Lib.hid (bd_q HBP.out _)⟩, by simp [intOf]; omega⟩
            | false =>
              by_cases hz : zk = (i : Int)
              · have HNX : Hid ((zs == x2) = someB x2 x1 C2 i (j + 1)) := Lib.hid (by rw [HSMj.out, ← HBb.out, hz]; simp)
                subst hz
                clear HSMj
                go_wp2_with fail
                go_quiet (fail)
                go_wp2
                exact ⟨⟨j + 1, zs == x2, by omega, by go_num, rfl, HNX, Lib.hid (bd_q HBP.out _)⟩, by simp [intOf]; omega⟩
              · have hz2 : (zk == (i : Int)) = false := by simpa using hz
                have HNX : Hid (false = someB x2 x1 C2 i (j + 1)) := Lib.hid (by rw [HSMj.out, ← HBb.out, hz2]; simp)
                clear HSMj hz
                go_wp2_with fail
                go_quiet (fail)
                go_wp2
                exact ⟨⟨j + 1, false, by omega, by go_num, rfl, HNX, Lib.hid (bd_q HBP.out _)⟩, by simp [intOf]; omega⟩
          · obtain rfl : j = mm := by omega
            have hbt : b = true := by rw [HBb.out, HSOj.out]
            subst hbt
            go_wp2
            exact ⟨⟨i + 1, by omega, by go_num, HBR⟩, by simp [intOf]; omega⟩
    · obtain rfl : i = n := by omega
      go_wp2
      go_ret
      exact ⟨rfl, bt hB10.out HBE.out⟩

theorem reads_all (A B : Option Addr) (ca cb : Nat) (S : List (List UInt8)) (C : List PutL) (k : Int) (t : List UInt8) (K : Nat) (w : World) (hA : SR w A S) (hB : PR w B C) (hca : S.length ≤ ca) (hcb : C.length ≤ cb) (h0 : A = none → ca = 0) (h1 : B = none → cb = 0) (hK : K < 18446744073709551616) :
    Calls Try.prog 6 #[dv A S.length ca B C.length cb, .int .i64 k, sv t, .int .u64 (K : Int)] w fun e w' => e = .returned (.bool true) ∧ Below w.heap.size w w' := by
  have e1 : (S.take 70).length = min S.length 70 := by rw [List.length_take, Nat.min_comm]
  have e2 : (C.take 65).length = min C.length 65 := by rw [List.length_take, Nat.min_comm]
  cases hr : rightB (S.take 70) (C.take 65) with
  | false => exact reads_no A B ca cb _ _ _ _ k t K 1 w rfl rfl hca hcb (by decide) (fun W hb => write_bad A B ca cb _ _ _ _ k t W ((hA.take 70).later hb) ((hB.take 65).later hb) e1 e2 hr)
  | true =>
    cases hh : hasB (min S.length 70) k with
    | false => exact reads_no A B ca cb _ _ _ _ k t K 2 w rfl rfl hca hcb (by decide) (fun W hb => write_range A B ca cb _ _ _ _ k t W ((hA.take 70).later hb) ((hB.take 65).later hb) e1 e2 hr hh)
    | true =>
      obtain ⟨k0, k1⟩ := (hasB_iff _ _).1 hh
      by_cases ht : t.length ≤ 128
      · by_cases hm : min C.length 65 = 60
        · have e3 : (C.take 65).length = 60 := by omega
          have := fun W hb => write_space A B ca cb _ _ _ k t W ((hA.take 70).later hb) ((hB.take 65).later hb) e1 e3 hr hh ht
          rw [← hm] at this
          exact reads_no A B ca cb _ _ _ _ k t K 6 w rfl rfl hca hcb (by decide) this
        · obtain ⟨q, rfl⟩ : ∃ q : Nat, k = (q : Int) := ⟨k.toNat, by omega⟩
          exact reads_yes A B ca cb _ _ _ _ _ _ q t K w (hA.take 70) (hB.take 65) e1 e2 rfl rfl hca hcb hr (by omega) ht hm h0 h1 hK
      · exact reads_no A B ca cb _ _ _ _ k t K 4 w rfl rfl hca hcb (by decide) (fun W hb => write_size A B ca cb _ _ _ _ k t W ((hA.take 70).later hb) ((hB.take 65).later hb) e1 e2 hr hh ht)

set_option maxHeartbeats 1000000 in
set_option maxRecDepth 100000 in
theorem reads_lifted (os : Os) (started : os.Started) (H : Type) (enc : TypeId × Value → H) :
    ReturnsInHanded {} Try.checked os 6 .any (Rows.deviceReadsSpec.pre6 enc Try.prog Try.f6 Rows.deviceReadsRow.domain false) (Rows.deviceReadsSpec.post enc Try.prog Try.f6 false true false false) := by
  refine returnsInHanded_of_change (C := Try.checked) Try.own started (by kernel_rfl) Try.func6
    (ChangeSpec.witness6 (enc := enc) (C := Try.checked) false ⟨#[], #[.agg #[.slice none 0 0, .slice none 0 0], .int .i64 0, .string ⟨#[]⟩, .int .u64 0], []⟩ 8 (by kernel_rfl) (by kernel_rfl) (by kernel_rfl) (by kernel_rfl)) ?_
  intro W base args ds gs before hval0 hW _ _
  have hval : ∀ (j : Nat) t v, Try.f6.params[j]? = some t → args[j]? = some v → Value.okWide Try.prog W .any base t v := hval0
  have hW' := hW
  obtain ⟨p, q, hA0, hV, rfl, _, _⟩ := hW
  have hA : DataW.TrodAll enc Try.prog W 0 (fun _ => true) true Try.f6.params.toList args.toList ds p := hA0
  rw [Try.params6] at hA hval
  obtain ⟨rfl, rfl⟩ := trodVars_none hV
  have hAk := hA
  obtain ⟨v0, v1, v2, v3, d0, d1, d2, d3, p0, p1, p2, p3, rfl, rfl, hp, h0, h1, h2, h3⟩ := trodAll_four hA
  have hlt : ∀ x ∈ p, x.block < W.heap.size := fun x hx => hW'.lt x (by simpa using hx)
  obtain ⟨A0, ca0, B0, cb0, S0, C0, rfl, hca0, hcb0, hS0, hC0, hA0, hB0⟩ := open_dev (hval 0 25 v0 rfl rfl) h0
  obtain ⟨n1, rfl, rfl, _, wn1⟩ := open_int Try.underlying3 (hval 1 3 v1 rfl rfl) h1
  have hi1 := i64_bounds wn1
  obtain ⟨s2, rfl, rfl, _, ws2⟩ := ChangeMaps.open_string Try.underlying9 (hval 2 9 v2 rfl rfl) h2
  unfold maxLen at ws2
  obtain ⟨l2, rfl, hz2⟩ := str_list s2
  have hl2 : (l2.length : Int) ≤ 9223372036854775807 := by omega
  obtain ⟨n3, rfl, rfl, _, wn3⟩ := open_int Try.underlying41 (hval 3 41 v3 rfl rfl) h3
  obtain ⟨m3, rfl, hm3⟩ := u64_nat wn3
  clear hA0 hval0
  refine (reads_all A0 B0 ca0 cb0 S0 C0 n1 l2 m3 W hS0 hC0 hca0 hcb0 hA0 hB0 hm3).mono fun e W' ⟨he, hn⟩ => ?_
  subst he
  refine ⟨_, rfl, ?_⟩
  refine ⟨_, _, _, [], p, [], hW', ?_, trodAll_below_ Try.laidOut hn _ hAk (all_readable (by kernel_rfl)) hlt, rfl, hn.frame _, fun h => by cases h⟩
  exact trodAll_mk1 (shut_bool Try.underlying4 true)

/-- DeviceReads, for every input. -/
theorem reads_holds : Rows.DeviceReadsSaid :=
  OpenClaim.holds_of_wide 6 Try.f6 rfl rfl rfl rfl rfl rfl rfl ⟨rfl, rfl, rfl, rfl, rfl⟩ rfl rfl rfl rfl rfl (by kernel_rfl) Try.func6 (by kernel_rfl)
    (of_decide_eq_true (by kernel_rfl)) (by unfold Func.isWrapper; rw [if_neg (of_decide_eq_false (by kernel_rfl))]; exact ⟨rfl, rfl⟩)
    (fun os started H enc _ => reads_lifted os started H enc)
#print axioms reads_holds
end Go.Proofs.Ytiibgbdhbamajaa
