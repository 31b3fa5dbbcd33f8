/- Texts of this seat, one behind the other: IFind, IChanged, IPut, ILike, IRefA. -/
import Derived.BigQuiet
import Derived.Lib.AppendZeros
import Derived.StillTailTactics
import Derived.Test.YtegojdblaanclaaDoorQ02
import Derived.Test.YtegojdblaanclaaDoorQ03
import Derived.Test.YtegojdblaanclaaDoorQ11
/- The contracts of Find and of alive. -/
namespace Go.Proofs.YtegojdblaanclaaDoor
open Go.RowKit

/-- The heights of the items that are not more than a number. -/
def ihts (key : List UInt8) (L : List ItL) (k : Nat) : List Nat := hsL key (ikeys (L.take (ileq L k)))
theorem ihts_len (key : List UInt8) (L : List ItL) (k : Nat) : (ihts key L k).length = ileq L k := by
  have := ileq_len L k
  rw [ihts, hsL_len, ikeys_len, List.length_take]; omega
theorem ihts_pos (key : List UInt8) (L : List ItL) (k : Nat) : ∀ j, j < (ihts key L k).length → 0 < (ihts key L k).getD j 0 := by
  intro j hj
  rw [ihts] at hj ⊢
  rw [hsL_at _ _ _ (by rwa [hsL_len] at hj)]
  have := hL_le key ((ikeys (L.take (ileq L k))).getD j 0)
  omega
/-- What Find tells, and finds. -/
def ifindE (L : List ItL) (k : Nat) : Int := if ¬ IRt L then 1 else if ileq L k = 0 then 3 else 0
def ifindH (key : List UInt8) (L : List ItL) (k : Nat) : List HopL := if ifindE L k = 0 then ihops (ihts key L k) else []
def ifindA (L : List ItL) (k : Nat) : Nat := if ifindE L k = 0 then ileq L k - 1 else 0
theorem ifind_bad {L : List ItL} (key : List UInt8) (k : Nat) (h : ¬ IRt L) : ifindE L k = 1 ∧ ifindH key L k = [] ∧ ifindA L k = 0 := by
  have : ifindE L k = 1 := by rw [ifindE, if_pos h]
  exact ⟨this, by rw [ifindH, if_neg (by omega)], by rw [ifindA, if_neg (by omega)]⟩
theorem ifind_none {L : List ItL} (key : List UInt8) {k : Nat} (h : IRt L) (h2 : ileq L k = 0) : ifindE L k = 3 ∧ ifindH key L k = [] ∧ ifindA L k = 0 := by
  have : ifindE L k = 3 := by rw [ifindE, if_neg (by simpa using h), if_pos h2]
  exact ⟨this, by rw [ifindH, if_neg (by omega)], by rw [ifindA, if_neg (by omega)]⟩
theorem ifind_yes {L : List ItL} (key : List UInt8) {k : Nat} (h : IRt L) (h2 : ileq L k ≠ 0) : ifindE L k = 0 ∧ ifindH key L k = ihops (ihts key L k) ∧ ifindA L k = ileq L k - 1 := by
  have : ifindE L k = 0 := by rw [ifindE, if_neg (by simpa using h), if_neg h2]
  exact ⟨this, by rw [ifindH, if_pos this], by rw [ifindA, if_pos this]⟩

set_option maxRecDepth 100000 in
set_option maxHeartbeats 4000000 in
theorem ifind_any (key : List UInt8) (A : Option Addr) (n c k : Nat) (L : List ItL) (w : World) (hkey : key.length ≤ 60000) (hA : IR w A L) (hl : L.length = n) (hc : n ≤ c) (hx : ∀ x ∈ L, x.1 < 18446744073709551616) (hn : n ≤ 1024) (hT : VTab w) :
    Calls Tryd.prog 18 #[.string ⟨key.toArray⟩, .slice A n c, vu k] w fun e w' => ∃ B d, e = .returned (.tuple #[.int .i64 (ifindA L k : Int), .slice B (ifindH key L k).length d, .int .i64 (ifindE L k)]) ∧ OR w' B (ifindH key L k) ∧ Below w.heap.size w w' := by
  have HRt := Lib.hid (fun W (hb : Below w.heap.size w W) => iright_any A n c L W (hA.later hb) hl (by omega))
  by_cases hr : IRt L
  · rw [decide_eq_true hr] at HRt
    have hq9 := ileq_len L k
    have HU := Lib.hid (fun W (hb : Below w.heap.size w W) => iupto_any A n c k L W (hA.later hb) hl hc hr.up (by omega))
    have HN := Lib.hid (fun W (hb : Below w.heap.size w W) => inumbers_any A (ileq L k) c (L.take (ileq L k)) W ((hA.later hb).take _) (by rw [List.length_take]; omega) (by omega))
    have HH := Lib.hid (fun g W (hb : Below w.heap.size w W) (hG : Blk W g 23 (((ikeys (L.take (ileq L k))).map vu).toArray)) => vheights_any key (some ⟨g, 0, none⟩) (ileq L k) (ileq L k) (ikeys (L.take (ileq L k))) W hkey (blk_VR hG) (by rw [ikeys_len, List.length_take]; omega) (fun x hx9 => by
      obtain ⟨y, hy, rfl⟩ := List.mem_map.1 hx9
      exact hx y (List.mem_of_mem_take hy)) (by omega) (hT.later hb))
    have HS := Lib.hid (fun g W (hG : Blk W g 3 (((ihts key L k).map vi).toArray)) => isearch_any (some ⟨g, 0, none⟩) (ileq L k) (ileq L k) (ihts key L k) W (blk_VR hG) (ihts_len key L k) (by omega))
    have HZ : Hid (ileq L k = 0 → (ihops (ihts key L k)).length = 0 ∧ ifindE L k = 3 ∧ ifindH key L k = [] ∧ ifindA L k = 0) := Lib.hid fun h => ⟨by rw [(ihops_none (ihts_pos key L k)).2 (List.eq_nil_of_length_eq_zero (by rw [ihts_len, h]))]; rfl, ifind_none key hr h⟩
    have HY : Hid (ileq L k ≠ 0 → 0 < (ihops (ihts key L k)).length ∧ ((ihops (ihts key L k)).getD ((ihops (ihts key L k)).length - 1) (0, 0)).2 + 1 = ileq L k ∧ ifindE L k = 0 ∧ ifindH key L k = ihops (ihts key L k) ∧ ifindA L k = ileq L k - 1) := Lib.hid fun h => ⟨by
        rw [List.length_pos_iff]
        intro e
        have := (ihops_none (ihts_pos key L k)).1 e
        have h2 := ihts_len key L k
        rw [this] at h2
        exact h h2.symm, by rw [ihops_last (ihts_pos key L k) (by rw [ihts_len]; omega), ihts_len], ifind_yes key hr h⟩
    have HLN : Hid ((ihops (ihts key L k)).length ≤ 1024) := Lib.hid (by have := ihops_len (ihts key L k); rw [ihts_len] at this; omega)
    rw [show hsL key (ikeys (L.take (ileq L k))) = ihts key L k from rfl] at HH
    generalize ihops (ihts key L k) = O at *
    generalize ihts key L k = G at *
    generalize ikeys (L.take (ileq L k)) = K at *
    generalize ifindE L k = E at *
    generalize ifindH key L k = F at *
    generalize ifindA L k = P at *
    generalize ileq L k = q at *
    clear hA hl hx hT hkey
    go_enter Tryd.func18, Tryd.ntmps18
    go_wp2_with fail
    refine (HRt.out _ (Below.refl _ _)).mono ?_
    rintro e w1 ⟨rfl, hb1⟩
    go_wp2_with fail
    refine (HU.out _ hb1).mono ?_
    rintro e w2 ⟨rfl, hb2⟩
    have B2 := Lib.hid (bt hb1 hb2)
    clear hb1 hb2 HRt HU
    go_wp2_with fail
    refine (HN.out _ B2.out).mono ?_
    rintro e w3 ⟨g3, rfl, hG3, hb3⟩
    have B3 := Lib.hid (bt B2.out hb3)
    have HH3 := Lib.hid (HH.out g3 w3 B3.out hG3)
    clear hb3 hG3 HN HH B2
    go_wp2_with fail
    refine HH3.out.mono ?_
    rintro e w4 ⟨g4, rfl, hG4, hb4⟩
    have B4 := Lib.hid (bt B3.out hb4)
    have HS4 := Lib.hid (HS.out g4 w4 hG4)
    clear hb4 hG4 HH3 HS B3
    go_wp2_with fail
    refine HS4.out.mono ?_
    rintro e w5 ⟨B, d, rfl, hO, hb5⟩
    have B5 := Lib.hid (bt B4.out hb5)
    have HOR := Lib.hid (own_OR hO rfl)
    clear hO hb5 HS4 B4
    by_cases hq : q = 0
    · obtain ⟨h0, rfl, rfl, rfl⟩ := HZ.out hq
      rw [h0]
      clear HZ HY
      go_wp2
      go_ret3
      exact ⟨none, 0, rfl, OR.nil _ _, B5.out⟩
    · obtain ⟨h0, h1, rfl, rfl, rfl⟩ := HY.out hq
      obtain ⟨m, hm⟩ : ∃ m, F.length = m + 1 := ⟨F.length - 1, by omega⟩
      obtain ⟨g, off, rfl, c0, c1⟩ := HOR.out m (by omega)
      rw [hm, Nat.add_sub_cancel] at h1
      have hm2 : m + 1 ≤ 1024 := by have := HLN.out; omega
      have HF : Hid (F.length = m + 1) := Lib.hid hm
      rw [hm]
      have h2 : (F.getD m (0, 0)).2 = q - 1 := by omega
      rw [h2] at c1
      obtain ⟨r, hr9⟩ : ∃ r, q - 1 = r := ⟨_, rfl⟩
      rw [hr9] at c1
      have HQ1 := Lib.hid hr9
      clear hr9
      clear HZ HY h0 h1 hm h2 HLN
      have e1 : ((m + 1 : Nat) : Int) - 1 = (m : Int) := by omega
      have e2 : (m : Int) + 1 - 1 = (m : Int) := by omega
      have e3 : (0 : Int) ≤ (m : Int) := by omega
      have e4 : (m : Int) < (m : Int) + 1 := by omega
      have e5 : ((m : Int) + 1 == 0) = false := by simp; omega
      go_wp2
      go_ret3
      exact ⟨some ⟨g, off, none⟩, d, by rw [HF.out, HQ1.out]; rfl, HOR.out, B5.out⟩
  · rw [decide_eq_false hr] at HRt
    obtain ⟨e1, e2, e3⟩ := ifind_bad key k hr
    rw [e1, e2, e3]
    clear hA hl hx hT hkey e1 e2 e3
    go_enter Tryd.func18, Tryd.ntmps18
    go_wp2_with fail
    refine (HRt.out _ (Below.refl _ _)).mono ?_
    rintro e w1 ⟨rfl, hb1⟩
    go_wp2
    go_ret3
    exact ⟨none, 0, rfl, OR.nil _ _, hb1⟩

set_option maxRecDepth 100000 in
set_option maxHeartbeats 2000000 in
theorem ialive_any (w : World) (hT : VTab w) : Calls Tryd.prog 14 #[] w fun e w' => e = .returned (.bool true) ∧ Below w.heap.size w w' := by
  have hb0 := ba (Below.refl w.heap.size w) (.cells (icells [(3, []), (5, []), (9, [])]).toArray 25)
  have hI := blk_IR (L := [(3, []), (5, []), (9, [])]) (Blk.new w 25 (icells [(3, []), (5, []), (9, [])]).toArray)
  have HF : Hid (Calls Tryd.prog 18 #[.string ⟨#[107]⟩, .slice (some ⟨w.heap.size, 0, none⟩) 3 3, .int .u64 6] (w.alloc (.cells (icells [(3, []), (5, []), (9, [])]).toArray 25)) fun e w' => ∃ B m d, 0 < m ∧ m ≤ 1024 ∧ e = .returned (.tuple #[.int .i64 1, .slice B m d, .int .i64 0]) ∧ Below w.heap.size w w') := Lib.hid (by
    refine (ifind_any [107] (some ⟨w.heap.size, 0, none⟩) 3 3 6 [(3, []), (5, []), (9, [])] _ (by simp) hI rfl (Nat.le_refl _) (by simp) (by omega) (hT.later hb0)).mono ?_
    rintro e w' ⟨B, d, rfl, _, hb⟩
    have hr : IRt [(3, []), (5, []), (9, [])] := by decide
    have hq : ileq [(3, []), (5, []), (9, [])] 6 = 2 := by decide
    obtain ⟨e1, e2, e3⟩ := ifind_yes [107] (L := [(3, []), (5, []), (9, [])]) (k := 6) hr (by rw [hq]; omega)
    have h1 := ihts_len [107] [(3, []), (5, []), (9, [])] 6
    have h2 := ihops_len (ihts [107] [(3, []), (5, []), (9, [])] 6)
    have h3 : 0 < (ihops (ihts [107] [(3, []), (5, []), (9, [])] 6)).length := by
      rw [List.length_pos_iff]
      intro e
      have := (ihops_none (ihts_pos [107] [(3, []), (5, []), (9, [])] 6)).1 e
      rw [this, hq] at h1
      cases h1
    rw [e1, e2, e3, hq]
    exact ⟨B, _, d, h3, by omega, rfl, bt hb0 hb⟩)
  clear hb0 hI hT
  go_enter Tryd.func14, Tryd.ntmps14
  go_wp2_with fail
  refine HF.out.mono ?_
  rintro e w1 ⟨B, m, d, h0, h1, rfl, hb⟩
  have h2 : (0 : Int) < (m : Int) := by omega
  go_wp2
  go_ret
  exact ⟨rfl, hb⟩
end Go.Proofs.YtegojdblaanclaaDoor
/- The contract of changed. -/
namespace Go.Proofs.YtegojdblaanclaaDoor
open Go.RowKit

set_option maxRecDepth 100000 in
set_option maxHeartbeats 2000000 in
theorem ichanged_any (A B : Option Addr) (n c a b m d : Nat) (L X : List ItL) (w : World) (hA : IR w A L) (hl : L.length = n) (hc : n ≤ c) (hB : IR w B X) (hm : X.length = m) (hab : a ≤ b) (hb : b ≤ n) (hn : n ≤ 1024) (hm2 : m ≤ 1024) :
    Calls Tryd.prog 24 #[.slice A n c, .int .i64 (a : Int), .int .i64 (b : Int), .slice B m d] w fun e w' => ∃ A' c', e = .returned (.slice A' (a + m + (n - b)) c') ∧ a + m + (n - b) ≤ c' ∧ IR w' A' (L.take a ++ X ++ L.drop b) ∧ Below w.heap.size w w' := by
  have h0 := fun W => icut0_run A n c W
  have h1 := fun W => icut_run A n c a (by omega) W
  obtain ⟨A2, h2, hA2⟩ := ifrom_run A L n c b hl (by omega) hc
  obtain ⟨W0, hW0⟩ : ∃ W0, w.drew = W0 := ⟨_, rfl⟩
  have hA0 : IR W0 A L := by rw [← hW0]; exact hA
  have hB0 : IR W0 B X := by rw [← hW0]; exact hB
  have b0 : Below w.heap.size w W0 := by rw [← hW0]; exact (Below.refl _ _).drew
  have hz : w.heap.size ≤ W0.heap.size := b0.size
  have hz2 : W0.heap.size ≤ w.heap.size := by rw [← hW0]; exact Nat.le_refl _
  have HF0 : Hid (IF W0 w.heap.size (.slice A 0 0) 0 []) := Lib.hid (.inl ⟨A, rfl, rfl, rfl⟩)
  obtain ⟨B1, c1, w1, r1, f1, b1⟩ := iappend_row (X := L.take a) (m := a) (d := c) HF0.out (hA0.take a) (by simp; omega) (by omega) hz
  have hB1 := hB0.later (b1.mono hz2)
  obtain ⟨B2, c2, w2, r2, f2, b2⟩ := iappend_row (X := X) (m := m) (d := d) f1 hB1 hm (by omega) (Nat.le_trans hz b1.size)
  have b12 := b1.trans b2
  obtain ⟨B3, c3, w3, r3, f3, b3⟩ := iappend_row (X := L.drop b) (m := n - b) (d := c - b) f2 (hA2 w2 (hA0.later (b12.mono hz2))) (by simp; omega) (by omega) (Nat.le_trans hz b12.size)
  have HEND : Hid (a + m + (n - b) ≤ c3 ∧ IR w3 B3 (L.take a ++ X ++ L.drop b) ∧ Below w.heap.size w w3) := Lib.hid ⟨by obtain ⟨_, _, e9, h9, _⟩ := f3.form; injection e9 with _ _ e9; omega, by have := f3.read; simpa using this, b0.trans (b12.trans b3)⟩
  simp only [Nat.zero_add] at r1 r2 r3 HEND
  clear hA hl hc hB hm hB1 hA2 f1 f2 f3 b1 b2 b3 b12 HF0 hA0 hB0 b0 hz hz2
  go_enter Tryd.func24, Tryd.ntmps24
  go_wp2_with fail
  go_still_tail 5, (by kernel_rfl)
  change wpList _ _ _ _ _ w.drew
  rw [hW0]
  clear hW0 h0 h1
  go_wp2_with (at_builtin; first | (refine Lib.wpList_append_run _ rfl _ _ 22 22 rfl (.slice A 0 0) (.slice A a c) rfl rfl _ _ r1 ?_; clear r1) | (refine Lib.wpList_append_run _ rfl _ _ 22 22 rfl (.slice B1 a c1) (.slice B m d) rfl rfl _ _ r2 ?_; clear r2) | (refine Lib.wpList_append_run _ rfl _ _ 22 22 rfl (.slice B2 (a + m) c2) (.slice A2 (n - b) (c - b)) rfl rfl _ _ r3 ?_; clear r3))
  go_ret
  exact ⟨B3, c3, rfl, HEND.out.1, HEND.out.2.1, HEND.out.2.2⟩
end Go.Proofs.YtegojdblaanclaaDoor
/- The contracts of Put and Drop. -/
namespace Go.Proofs.YtegojdblaanclaaDoor
open Go.RowKit

/-- What Put tells, and makes. -/
def iputE (L : List ItL) (x : ItL) : Int := if ¬ IRt L then 1 else if ¬ x.2.length ≤ 64 then 4 else if ¬ (ihas L x.1 ∨ L.length < 64) then 6 else 0
def iputR (L : List ItL) (x : ItL) : List ItL := if iputE L x = 0 then iput L x else []
def idropE (L : List ItL) (k : Nat) : Int := if ¬ IRt L then 1 else if ¬ ihas L k then 3 else 0
def idropR (L : List ItL) (k : Nat) : List ItL := if idropE L k = 0 then idrop L k else []
theorem iputE_bad {L : List ItL} {x : ItL} (h : ¬ IRt L) : iputE L x = 1 ∧ iputR L x = [] := by
  have : iputE L x = 1 := by rw [iputE, if_pos h]
  exact ⟨this, by rw [iputR, if_neg (by omega)]⟩
theorem iputE_size {L : List ItL} {x : ItL} (h : IRt L) (h2 : ¬ x.2.length ≤ 64) : iputE L x = 4 ∧ iputR L x = [] := by
  have : iputE L x = 4 := by rw [iputE, if_neg (by simpa using h), if_pos h2]
  exact ⟨this, by rw [iputR, if_neg (by omega)]⟩
theorem iputE_space {L : List ItL} {x : ItL} (h : IRt L) (h2 : x.2.length ≤ 64) (h3 : ¬ (ihas L x.1 ∨ L.length < 64)) : iputE L x = 6 ∧ iputR L x = [] := by
  have : iputE L x = 6 := by rw [iputE, if_neg (by simpa using h), if_neg (by simpa using h2), if_pos h3]
  exact ⟨this, by rw [iputR, if_neg (by omega)]⟩
theorem iputE_yes {L : List ItL} {x : ItL} (h : IRt L) (h2 : x.2.length ≤ 64) (h3 : ihas L x.1 ∨ L.length < 64) : iputE L x = 0 ∧ iputR L x = iput L x := by
  have : iputE L x = 0 := by rw [iputE, if_neg (by simpa using h), if_neg (by simpa using h2), if_neg (fun hh => hh h3)]
  exact ⟨this, by rw [iputR, if_pos this]⟩
theorem idropE_bad {L : List ItL} {k : Nat} (h : ¬ IRt L) : idropE L k = 1 ∧ idropR L k = [] := by
  have : idropE L k = 1 := by rw [idropE, if_pos h]
  exact ⟨this, by rw [idropR, if_neg (by omega)]⟩
theorem idropE_none {L : List ItL} {k : Nat} (h : IRt L) (h2 : ¬ ihas L k) : idropE L k = 3 ∧ idropR L k = [] := by
  have : idropE L k = 3 := by rw [idropE, if_neg (by simpa using h), if_pos h2]
  exact ⟨this, by rw [idropR, if_neg (by omega)]⟩
theorem idropE_yes {L : List ItL} {k : Nat} (h : IRt L) (h2 : ihas L k) : idropE L k = 0 ∧ idropR L k = idrop L k := by
  have : idropE L k = 0 := by rw [idropE, if_neg (by simpa using h), if_neg (fun hh => hh h2)]
  exact ⟨this, by rw [idropR, if_pos this]⟩

set_option maxRecDepth 100000 in
set_option maxHeartbeats 2000000 in
theorem idrop_any (A : Option Addr) (n c k : Nat) (L : List ItL) (w : World) (hA : IR w A L) (hl : L.length = n) (hc : n ≤ c) (hn : n ≤ 1024) :
    Calls Tryd.prog 9 #[.slice A n c, vu k] w fun e w' => ∃ B d, e = .returned (.tuple #[.slice B (idropR L k).length d, .int .i64 (idropE L k)]) ∧ (idropR L k).length ≤ d ∧ IR w' B (idropR L k) ∧ Below w.heap.size w w' := by
  have HRt := Lib.hid (fun W (hb : Below w.heap.size w W) => iright_any A n c L W (hA.later hb) hl (by omega))
  by_cases hr : IRt L
  · rw [decide_eq_true hr] at HRt
    have HP := Lib.hid (fun W (hb : Below w.heap.size w W) => iplace_any A n c k L W (hA.later hb) hl hr.up (by omega))
    have HQ : Hid (∀ p b, IPos L k p → (b = true ↔ p < n ∧ ik L p = k) → (b = true → p < n ∧ idropE L k = 0 ∧ idropR L k = L.take p ++ [] ++ L.drop (p + 1) ∧ (idropR L k).length = p + 0 + (n - (p + 1))) ∧ (b = false → idropE L k = 3 ∧ idropR L k = [])) := Lib.hid fun p b hp hb => by
      refine ⟨fun e => ?_, fun e => ?_⟩
      · obtain ⟨h1, h2⟩ := hb.1 e
        have h3 := idropE_yes hr ((hp.has hr.up).2 ⟨by omega, h2⟩)
        have h4 : idropR L k = L.take p ++ [] ++ L.drop (p + 1) := by rw [h3.2, hp.drop_in hr.up (by omega) h2, List.append_nil]
        refine ⟨h1, h3.1, h4, ?_⟩
        rw [h4]
        simp
        omega
      · refine idropE_none hr fun hh => ?_
        have := (hp.has hr.up).1 hh
        have h4 := hb.2 ⟨by omega, this.2⟩
        rw [e] at h4
        cases h4
    have HC := Lib.hid (fun p W (hb : Below w.heap.size w W) (hp : p < n) => ichanged_any A none n c p (p + 1) 0 0 L [] W (hA.later hb) hl hc (IR.nil _ _) rfl (by omega) (by omega) hn (by omega))
    generalize idropE L k = E at *
    generalize idropR L k = R at *
    clear hA hl
    go_enter Tryd.func9, Tryd.ntmps9
    go_wp2_with fail
    refine (HRt.out _ (Below.refl _ _)).mono ?_
    rintro e w1 ⟨rfl, hb1⟩
    go_wp2_with fail
    refine (HP.out _ hb1).mono ?_
    rintro e w2 ⟨p, b, hp, hbb, rfl, hb2⟩
    obtain ⟨hy, hno⟩ := HQ.out p b hp hbb
    have hb12 := bt hb1 hb2
    clear hp hbb HQ HP HRt
    cases b with
    | true =>
      obtain ⟨h1, rfl, h3, h4⟩ := hy rfl
      have HC1 := Lib.hid (HC.out p w2 hb12 h1)
      rw [← h3, ← h4] at HC1
      clear hy hno h3 h4 HC
      rw [show ((p + 1 : Nat) : Int) = (p : Int) + 1 by omega] at HC1
      go_wp2_with fail
      refine HC1.out.mono ?_
      rintro e w3 ⟨B, d, rfl, hd, hI, hb3⟩
      go_wp2
      go_ret2
      exact ⟨B, d, rfl, hd, hI, bt hb12 hb3⟩
    | false =>
      obtain ⟨rfl, rfl⟩ := hno rfl
      clear hy hno HC
      go_wp2
      go_ret2
      exact ⟨none, 0, rfl, Nat.le_refl _, IR.nil _ _, hb12⟩
  · rw [decide_eq_false hr] at HRt
    obtain ⟨e1, e2⟩ := idropE_bad (k := k) hr
    rw [e1, e2]
    clear hA hl e1 e2
    go_enter Tryd.func9, Tryd.ntmps9
    go_wp2_with fail
    refine (HRt.out _ (Below.refl _ _)).mono ?_
    rintro e w1 ⟨rfl, hb1⟩
    go_wp2
    go_ret2
    exact ⟨none, 0, rfl, Nat.le_refl _, IR.nil _ _, hb1⟩

set_option maxRecDepth 100000 in
set_option maxHeartbeats 4000000 in
theorem iput_any (A : Option Addr) (n c k : Nat) (ks : List UInt8) (L : List ItL) (w : World) (hA : IR w A L) (hl : L.length = n) (hc : n ≤ c) (hn : n ≤ 1024) :
    Calls Tryd.prog 8 #[.slice A n c, .agg #[.int .u64 (k : Int), sv ks]] w fun e w' => ∃ B d, e = .returned (.tuple #[.slice B (iputR L (k, ks)).length d, .int .i64 (iputE L (k, ks))]) ∧ (iputR L (k, ks)).length ≤ d ∧ IR w' B (iputR L (k, ks)) ∧ Below w.heap.size w w' := by
  have hb0 := ba (Below.refl w.heap.size w) (.cells #[.int .u64 (k : Int), sv ks] 25)
  have HK0 : Hid (Blk (w.alloc (.cells #[.int .u64 (k : Int), sv ks] 25)) w.heap.size 25 #[.int .u64 (k : Int), sv ks]) := Lib.hid (Blk.new w _ _)
  have HRt := Lib.hid (fun W (hb : Below w.heap.size w W) => iright_any A n c L W (hA.later hb) hl (by omega))
  have HV := Lib.hid (fun W => isval_any ks W)
  by_cases hr : IRt L
  · rw [decide_eq_true hr] at HRt
    by_cases hv : ks.length ≤ 64
    · rw [decide_eq_true hv] at HV
      have HP := Lib.hid (fun W (hb : Below w.heap.size w W) => iplace_any A n c k L W (hA.later hb) hl hr.up (by omega))
      have HQ : Hid (∀ p b, IPos L k p → (b = true ↔ p < n ∧ ik L p = k) → p ≤ n ∧ (b = true → p < n ∧ iputE L (k, ks) = 0 ∧ iputR L (k, ks) = L.take p ++ [(k, ks)] ++ L.drop (p + 1) ∧ (iputR L (k, ks)).length = p + 1 + (n - (p + 1))) ∧ (b = false → (n = 64 → iputE L (k, ks) = 6 ∧ iputR L (k, ks) = []) ∧ (n ≠ 64 → iputE L (k, ks) = 0 ∧ iputR L (k, ks) = L.take p ++ [(k, ks)] ++ L.drop p ∧ (iputR L (k, ks)).length = p + 1 + (n - p)))) := Lib.hid fun p b hp hb => by
        have hn64 := hr.1
        refine ⟨by have := hp.1; omega, fun e => ?_, fun e => ?_⟩
        · obtain ⟨h1, h2⟩ := hb.1 e
          have h3 := iputE_yes (x := (k, ks)) hr hv (.inl ((hp.has hr.up).2 ⟨by omega, h2⟩))
          have h4 : iputR L (k, ks) = L.take p ++ [(k, ks)] ++ L.drop (p + 1) := by rw [h3.2, IPos.put_in (x := (k, ks)) hp hr.up (by omega) h2]
          refine ⟨h1, h3.1, h4, ?_⟩
          rw [h4]
          simp
          omega
        · have hno : ¬ ihas L k := fun hh => by
            have := (hp.has hr.up).1 hh
            have h4 := hb.2 ⟨by omega, this.2⟩
            rw [e] at h4
            cases h4
          refine ⟨fun h => iputE_space hr hv (fun hh => ?_), fun h => ?_⟩
          · rcases hh with hh | hh
            · exact hno hh
            · omega
          · have h3 := iputE_yes (x := (k, ks)) hr hv (.inr (by omega))
            have h4 : iputR L (k, ks) = L.take p ++ [(k, ks)] ++ L.drop p := by rw [h3.2, IPos.put_new (x := (k, ks)) hp hno]
            refine ⟨h3.1, h4, ?_⟩
            rw [h4]
            have := hp.1
            simp
            omega
      have HC := Lib.hid (fun p q g W (hb : Below w.heap.size w W) (hk : IR W (some ⟨g, 0, none⟩) [(k, ks)]) (hp : p ≤ q) (hq : q ≤ n) => ichanged_any A (some ⟨g, 0, none⟩) n c p q 1 1 L [(k, ks)] W (hA.later hb) hl hc hk rfl hp hq hn (by omega))
      generalize iputE L (k, ks) = E at *
      generalize iputR L (k, ks) = R at *
      clear hA hl
      go_enter Tryd.func8, Tryd.ntmps8
      go_wp2_with fail
      refine (HRt.out _ hb0).mono ?_
      rintro e w1 ⟨rfl, hb1⟩
      have HK1 := Lib.hid (HK0.out.below hb1)
      have b01 := bt hb0 hb1
      have k0 := HK1.out.cell 0
      have k1 := HK1.out.cell 1
      simp only [List.getElem?_toArray, List.getElem?_cons_zero, List.getElem?_cons_succ] at k0 k1
      clear hb0 HK0 hb1 HRt
      go_wp2_with fail
      refine (HV.out _).mono ?_
      rintro e w1' ⟨rfl, rfl⟩
      go_wp2_with fail
      refine (HP.out _ b01).mono ?_
      rintro e w2 ⟨p, b, hp, hbb, rfl, hb2⟩
      obtain ⟨hpn, hy, hno⟩ := HQ.out p b hp hbb
      have hb12 := bt b01 hb2
      have HK2 := Lib.hid (HK1.out.below hb2)
      clear hp hbb HQ HP k0 k1 HK1 b01 hb2 HV
      have k0 := HK2.out.cell 0
      have k1 := HK2.out.cell 1
      simp only [List.getElem?_toArray, List.getElem?_cons_zero, List.getElem?_cons_succ] at k0 k1
      have HI := Lib.hid (blk_IR (L := [(k, ks)]) (Blk.new w2 25 (icells [(k, ks)]).toArray))
      have hb3 := Lib.hid (ba hb12 (.cells (icells [(k, ks)]).toArray 25))
      cases b with
      | true =>
        obtain ⟨h1, rfl, h3, h4⟩ := hy rfl
        have HC1 := Lib.hid (HC.out p (p + 1) w2.heap.size _ hb3.out HI.out (by omega) (by omega))
        rw [← h3, ← h4] at HC1
        clear hy hno h3 h4 HC HI
        rw [show ((p + 1 : Nat) : Int) = (p : Int) + 1 by omega] at HC1
        go_wp2_with fail
        refine HC1.out.mono ?_
        rintro e w3 ⟨B, d, rfl, hd, hI, hb4⟩
        go_wp2
        go_ret2
        exact ⟨B, d, rfl, hd, hI, bt hb3.out hb4⟩
      | false =>
        obtain ⟨hf, hg⟩ := hno rfl
        by_cases h64 : n = 64
        · obtain ⟨rfl, rfl⟩ := hf h64
          subst h64
          clear hy hno HC hf hg
          go_wp2
          go_ret2
          exact ⟨none, 0, rfl, Nat.le_refl _, IR.nil _ _, hb12⟩
        · obtain ⟨rfl, h3, h4⟩ := hg h64
          have HC1 := Lib.hid (HC.out p p w2.heap.size _ hb3.out HI.out (by omega) (by omega))
          rw [← h3, ← h4] at HC1
          have h65 : ((n : Int) == 64) = false := by simp; omega
          clear hy hno h3 h4 HC HI hf hg
          go_wp2_with fail
          refine HC1.out.mono ?_
          rintro e w3 ⟨B, d, rfl, hd, hI, hb4⟩
          go_wp2
          go_ret2
          exact ⟨B, d, rfl, hd, hI, bt hb3.out hb4⟩
    · rw [decide_eq_false hv] at HV
      obtain ⟨e1, e2⟩ := iputE_size (x := (k, ks)) hr hv
      rw [e1, e2]
      clear hA hl e1 e2
      go_enter Tryd.func8, Tryd.ntmps8
      go_wp2_with fail
      refine (HRt.out _ hb0).mono ?_
      rintro e w1 ⟨rfl, hb1⟩
      have HK1 := Lib.hid (HK0.out.below hb1)
      have b01 := bt hb0 hb1
      have k0 := HK1.out.cell 0
      have k1 := HK1.out.cell 1
      simp only [List.getElem?_toArray, List.getElem?_cons_zero, List.getElem?_cons_succ] at k0 k1
      clear hb0 HK0 hb1 HRt
      go_wp2_with fail
      refine (HV.out _).mono ?_
      rintro e w1' ⟨rfl, rfl⟩
      go_wp2
      go_ret2
      exact ⟨none, 0, rfl, Nat.le_refl _, IR.nil _ _, b01⟩
  · rw [decide_eq_false hr] at HRt
    obtain ⟨e1, e2⟩ := iputE_bad (x := (k, ks)) hr
    rw [e1, e2]
    clear hA hl e1 e2
    go_enter Tryd.func8, Tryd.ntmps8
    go_wp2_with fail
    refine (HRt.out _ hb0).mono ?_
    rintro e w1 ⟨rfl, hb1⟩
    have b01 := bt hb0 hb1
    go_wp2
    go_ret2
    exact ⟨none, 0, rfl, Nat.le_refl _, IR.nil _ _, b01⟩
end Go.Proofs.YtegojdblaanclaaDoor
/- The contracts of slices.Equal of two lists of items, of Like, and of the reference's Same. -/
namespace Go.Proofs.YtegojdblaanclaaDoor
open Go.RowKit

theorem igetD_same {α : Type} (d : α) {L M : List α} {n : Nat} (hl : L.length = n) (hm : M.length = n) (h : ∀ j, j < n → L.getD j d = M.getD j d) : L = M := by
  apply List.ext_getElem
  · rw [hl, hm]
  · intro i h1 h2
    have := h i (by omega)
    simpa [List.getD, h1, h2] using this
set_option maxRecDepth 100000 in
set_option maxHeartbeats 4000000 in
theorem ieq_any (A B : Option Addr) (c d n m : Nat) (L M : List ItL) (w : World) (hA : IR w A L) (hB : IR w B M) (hl : L.length = n) (hm : M.length = m) (hn : n ≤ 65536) (hn2 : m ≤ 65536) :
    Calls Tryd.prog 25 #[.slice A n c, .slice B m d] w fun e w' => e = .returned (.bool (decide (L = M))) ∧ Below w.heap.size w w' := by
  have HA := Lib.hid hA
  have HB := Lib.hid hB
  have HL := Lib.hid hl
  have HM := Lib.hid hm
  clear hA hB hl hm
  by_cases hnm : n = m
  · subst hnm
    clear hn2
    go_enter Tryd.func25, Tryd.ntmps25
    go_wp2_with fail
    go_loopw [13] (fun iv wr => ∃ k : Nat, k ≤ n ∧ iv = .int .i64 k ∧ Hid (∀ j, j < k → L.getD j (0, []) = M.getD j (0, [])) ∧ Below w.heap.size w wr) (fun i _ => n - (intOf i).toNat)
    case atStart => exact ⟨0, Nat.zero_le _, rfl, Lib.hid (fun j hj => absurd hj (Nat.not_lt_zero j)), Below.refl _ _⟩
    case round =>
      obtain ⟨k, hk, rfl, HE, hb⟩ := hrel
      by_cases hlt : k < n
      · obtain ⟨g, off, rfl, p0, p1⟩ := (HA.out.later hb) k (by rw [HL.out]; exact hlt)
        obtain ⟨g', off', rfl, q0, q1⟩ := (HB.out.later hb) k (by rw [HM.out]; exact hlt)
        have i0 : (0 : Int) ≤ (k : Int) := by omega
        have i1 : (k : Int) < (n : Int) := by omega
        by_cases hxy : L.getD k (0, []) = M.getD k (0, [])
        · have HE2 : Hid (∀ j, j < k + 1 → L.getD j (0, []) = M.getD j (0, [])) := Lib.hid (fun j hj => by
            by_cases e : j = k
            · rw [e]; exact hxy
            · exact HE.out j (by omega))
          rw [← hxy] at q0 q1
          clear hxy
          generalize L.getD k (0, []) = x at p0 p1 q0 q1
          obtain ⟨xk, xs⟩ := x
          simp only at p0 p1 q0 q1
          go_wp2_with fail
          go_quiet (fail)
          go_wp2
          exact ⟨⟨k + 1, by omega, by go_num, HE2, below_drewN hb _⟩, by simp [intOf]; omega⟩
        · have HN : Hid (decide (L = M) = false) := Lib.hid (by simp; intro e; exact hxy (by rw [e]))
          have hx : (L.getD k (0, []) == M.getD k (0, [])) = false := by simp only [beq_eq_false_iff_ne]; exact hxy
          clear hxy
          generalize L.getD k (0, []) = x at p0 p1 hx
          generalize M.getD k (0, []) = y at q0 q1 hx
          obtain ⟨xk, xs⟩ := x
          obtain ⟨yk, ys⟩ := y
          simp only at p0 p1 q0 q1
          by_cases hk2 : xk = yk
          · subst hk2
            have hx2 : (xs == ys) = false := by simpa using hx
            have hx3 : (xs != ys) = true := by simp [bne, hx2]
            clear hx
            go_wp2_with fail
            go_quiet (fail)
            go_wp2
            go_ret
            rw [HN.out]
            exact ⟨rfl, below_drewN hb _⟩
          · have hx2 : (xk == yk) = false := by simpa using hk2
            have hx3 : (xk != yk) = true := by simp [bne, hx2]
            have hx4 : ((xk : Int) == (yk : Int)) = false := by simp; omega
            have hx5 : ((xk : Int) != (yk : Int)) = true := by simp [bne, hx4]
            clear hx hk2
            go_wp2_with fail
            go_quiet (fail)
            go_wp2
            go_ret
            rw [HN.out]
            exact ⟨rfl, below_drewN hb _⟩
      · obtain rfl : k = n := by omega
        have HY : Hid (decide (L = M) = true) := Lib.hid (by simp; exact igetD_same (0, []) HL.out HM.out HE.out)
        go_wp2
        go_ret
        rw [HY.out]
        exact ⟨rfl, hb⟩
  · have HN : Hid (decide (L = M) = false) := Lib.hid (by simp; intro e; exact hnm (by rw [← HL.out, ← HM.out, e]))
    have h1 : (n == m) = false := by simp; exact hnm
    have h2 : ((n : Int) == (m : Int)) = false := by simp; omega
    have h3 : ((n : Int) != (m : Int)) = true := by simp; omega
    clear hnm
    go_enter Tryd.func25, Tryd.ntmps25
    go_wp2_with fail
    go_ret
    rw [HN.out]
    exact ⟨rfl, Below.refl _ _⟩


set_option maxRecDepth 100000 in
set_option maxHeartbeats 4000000 in
theorem isame_any (A B : Option Addr) (c d n m : Nat) (L M : List ItL) (w : World) (hA : IR w A L) (hB : IR w B M) (hl : L.length = n) (hm : M.length = m) (hn : n ≤ 65536) (hn2 : m ≤ 65536) :
    Calls Tryd.prog 13 #[.slice A n c, .slice B m d] w fun e w' => e = .returned (.bool (decide (L = M))) ∧ Below w.heap.size w w' := by
  have HA := Lib.hid hA
  have HB := Lib.hid hB
  have HL := Lib.hid hl
  have HM := Lib.hid hm
  clear hA hB hl hm
  by_cases hnm : n = m
  · subst hnm
    clear hn2
    go_enter Tryd.func13, Tryd.ntmps13
    go_wp2_with fail
    go_loopw [13] (fun iv wr => ∃ k : Nat, k ≤ n ∧ iv = .int .i64 k ∧ Hid (∀ j, j < k → L.getD j (0, []) = M.getD j (0, [])) ∧ Below w.heap.size w wr) (fun i _ => n - (intOf i).toNat)
    case atStart => exact ⟨0, Nat.zero_le _, rfl, Lib.hid (fun j hj => absurd hj (Nat.not_lt_zero j)), Below.refl _ _⟩
    case round =>
      obtain ⟨k, hk, rfl, HE, hb⟩ := hrel
      by_cases hlt : k < n
      · obtain ⟨g, off, rfl, p0, p1⟩ := (HA.out.later hb) k (by rw [HL.out]; exact hlt)
        obtain ⟨g', off', rfl, q0, q1⟩ := (HB.out.later hb) k (by rw [HM.out]; exact hlt)
        have i0 : (0 : Int) ≤ (k : Int) := by omega
        have i1 : (k : Int) < (n : Int) := by omega
        by_cases hxy : L.getD k (0, []) = M.getD k (0, [])
        · have HE2 : Hid (∀ j, j < k + 1 → L.getD j (0, []) = M.getD j (0, [])) := Lib.hid (fun j hj => by
            by_cases e : j = k
            · rw [e]; exact hxy
            · exact HE.out j (by omega))
          rw [← hxy] at q0 q1
          clear hxy
          generalize L.getD k (0, []) = x at p0 p1 q0 q1
          obtain ⟨xk, xs⟩ := x
          simp only at p0 p1 q0 q1
          go_wp2_with fail
          go_quiet (fail)
          go_wp2
          exact ⟨⟨k + 1, by omega, by go_num, HE2, below_drewN hb _⟩, by simp [intOf]; omega⟩
        · have HN : Hid (decide (L = M) = false) := Lib.hid (by simp; intro e; exact hxy (by rw [e]))
          have hx : (L.getD k (0, []) == M.getD k (0, [])) = false := by simp only [beq_eq_false_iff_ne]; exact hxy
          clear hxy
          generalize L.getD k (0, []) = x at p0 p1 hx
          generalize M.getD k (0, []) = y at q0 q1 hx
          obtain ⟨xk, xs⟩ := x
          obtain ⟨yk, ys⟩ := y
          simp only at p0 p1 q0 q1
          by_cases hk2 : xk = yk
          · subst hk2
            have hx2 : (xs == ys) = false := by simpa using hx
            have hx3 : (xs != ys) = true := by simp [bne, hx2]
            clear hx
            go_wp2_with fail
            go_quiet (fail)
            go_wp2
            go_ret
            rw [HN.out]
            exact ⟨rfl, below_drewN hb _⟩
          · have hx2 : (xk == yk) = false := by simpa using hk2
            have hx3 : (xk != yk) = true := by simp [bne, hx2]
            have hx4 : ((xk : Int) == (yk : Int)) = false := by simp; omega
            have hx5 : ((xk : Int) != (yk : Int)) = true := by simp [bne, hx4]
            clear hx hk2
            go_wp2_with fail
            go_quiet (fail)
            go_wp2
            go_ret
            rw [HN.out]
            exact ⟨rfl, below_drewN hb _⟩
      · obtain rfl : k = n := by omega
        have HY : Hid (decide (L = M) = true) := Lib.hid (by simp; exact igetD_same (0, []) HL.out HM.out HE.out)
        go_wp2
        go_ret
        rw [HY.out]
        exact ⟨rfl, hb⟩
  · have HN : Hid (decide (L = M) = false) := Lib.hid (by simp; intro e; exact hnm (by rw [← HL.out, ← HM.out, e]))
    have h1 : (n == m) = false := by simp; exact hnm
    have h2 : ((n : Int) == (m : Int)) = false := by simp; omega
    have h3 : ((n : Int) != (m : Int)) = true := by simp; omega
    clear hnm
    go_enter Tryd.func13, Tryd.ntmps13
    go_wp2_with fail
    go_ret
    rw [HN.out]
    exact ⟨rfl, Below.refl _ _⟩


set_option maxRecDepth 100000 in
set_option maxHeartbeats 1000000 in
theorem ilike_any (A B : Option Addr) (c d n m : Nat) (L M : List ItL) (w : World) (hA : IR w A L) (hB : IR w B M) (hl : L.length = n) (hm : M.length = m) (hn : n ≤ 65536) (hn2 : m ≤ 65536) :
    Calls Tryd.prog 12 #[.slice A n c, .slice B m d] w fun e w' => e = .returned (.bool (decide (L = M))) ∧ Below w.heap.size w w' := by
  have HE := Lib.hid (ieq_any A B c d n m L M w hA hB hl hm hn hn2)
  clear hA hB hl hm
  go_enter Tryd.func12, Tryd.ntmps12
  go_wp2_with fail
  refine HE.out.mono ?_
  rintro e w1 ⟨rfl, hb⟩
  go_wp2
  go_ret
  exact ⟨rfl, hb⟩
end Go.Proofs.YtegojdblaanclaaDoor
/- The contracts of the reference's Right, At and Floor. -/
namespace Go.Proofs.YtegojdblaanclaaDoor
open Go.RowKit

/-- The place of a number's item; -1: there is none. -/
def iatZ (L : List ItL) (k : Nat) : Int := if ihas L k then (iless L k : Int) else -1
theorem iatZ_yes {L : List ItL} {k j : Nat} (hj : j < L.length) (he : ik L j = k) (hu : IUp L) : iatZ L k = (j : Int) := by
  have hp : IPos L k j := ⟨by omega, fun t ht => by have := hu t j ht hj; omega, fun t a b => by
    rcases Nat.lt_or_ge j t with h | h
    · have := hu j t h b; omega
    · obtain rfl : t = j := by omega
      omega⟩
  rw [iatZ, if_pos ((hp.has hu).2 ⟨hj, he⟩), hp.iless]
theorem iatZ_no {L : List ItL} {k : Nat} (hn : ∀ i, i < L.length → ik L i ≠ k) : iatZ L k = -1 := by
  rw [iatZ, if_neg]
  rintro ⟨x, hx, e⟩
  obtain ⟨j, hj, rfl⟩ := iat_of_mem hx
  exact hn j hj e

set_option maxRecDepth 100000 in
set_option maxHeartbeats 4000000 in
theorem irat_any (A : Option Addr) (n c k : Nat) (L : List ItL) (w : World) (hA : IR w A L) (hl : L.length = n) (hu : IUp L) (hn : n ≤ 65536) :
    Calls Tryd.prog 15 #[.slice A n c, vu k] w fun e w' => e = .returned (.int .i64 (iatZ L k)) ∧ Below w.heap.size w w' := by
  have HA := Lib.hid hA
  have HY : Hid (∀ j, j < n → (L.getD j (0, [])).1 = k → iatZ L k = (j : Int)) := Lib.hid fun j hj he => iatZ_yes (by omega) he hu
  have HN : Hid ((∀ i, i < n → ik L i ≠ k) → iatZ L k = -1) := Lib.hid fun h => iatZ_no fun i hi => h i (by omega)
  have HL := Lib.hid hl
  generalize iatZ L k = R at HY HN ⊢
  clear hA hl hu
  go_enter Tryd.func15, Tryd.ntmps15
  go_wp2_with fail
  go_loopw [9] (fun iv wr => ∃ j : Nat, j ≤ n ∧ iv = .int .i64 (j : Int) ∧ Hid (∀ i, i < j → ik L i ≠ k) ∧ Below w.heap.size w wr) (fun i _ => n - (intOf i).toNat)
  case atStart => exact ⟨0, Nat.zero_le _, rfl, Lib.hid (fun i hi => by omega), Below.refl _ _⟩
  case round =>
    obtain ⟨j, hj, rfl, HJ, hb⟩ := hrel
    by_cases hlt : j < n
    · obtain ⟨g, off, rfl, c0, c1⟩ := (HA.out.later hb) j (by rw [HL.out]; exact hlt)
      have HY1 := Lib.hid (HY.out j hlt)
      have HJ1 : Hid ((L.getD j (0, [])).1 ≠ k → ∀ i, i < j + 1 → ik L i ≠ k) := Lib.hid fun h i hi => by
        by_cases e : i = j
        · rw [e]; exact h
        · exact HJ.out i (by omega)
      generalize L.getD j (0, []) = x at *
      obtain ⟨xk, xs⟩ := x
      simp only at c0 c1 HY1 HJ1
      have i0 : (0 : Int) ≤ (j : Int) := by omega
      have i1 : (j : Int) < (n : Int) := by omega
      by_cases hx : xk = k
      · have HR := Lib.hid (HY1.out hx)
        subst hx
        clear HJ1 HY1
        go_wp2
        go_ret
        rw [HR.out]
        exact ⟨rfl, ba hb _⟩
      · have HJ2 := Lib.hid (HJ1.out hx)
        have hx2 : ((xk : Int) == (k : Int)) = false := by simp; omega
        clear HJ1 HY1
        go_wp2
        exact ⟨⟨j + 1, by omega, by go_num, HJ2, ba hb _⟩, by simp [intOf]; omega⟩
    · obtain rfl : j = n := by omega
      have HR := Lib.hid (HN.out HJ.out)
      go_wp2
      go_ret
      rw [HR.out]
      exact ⟨rfl, hb⟩

set_option maxRecDepth 100000 in
set_option maxHeartbeats 4000000 in
theorem irfloor_any (A : Option Addr) (n c k : Nat) (L : List ItL) (w : World) (hA : IR w A L) (hl : L.length = n) (hu : IUp L) (hn : n ≤ 65536) :
    Calls Tryd.prog 19 #[.slice A n c, vu k] w fun e w' => e = .returned (.int .i64 ((ileq L k : Int) - 1)) ∧ Below w.heap.size w w' := by
  have HA := Lib.hid hA
  have HI : Hid (∀ j, j < n → (j < ileq L k ↔ (L.getD j (0, [])).1 ≤ k)) := Lib.hid fun j hj => ileq_in hu j (by omega)
  have HC : Hid (ileq L k ≤ n) := Lib.hid (by have := ileq_len L k; omega)
  have HL := Lib.hid hl
  generalize ileq L k = R at HI HC ⊢
  clear hA hl hu
  go_enter Tryd.func19, Tryd.ntmps19
  go_wp2_with fail
  go_loopw [5, 10] (fun ov iv wr => ∃ (j : Nat) (z : Int), j ≤ n ∧ iv = .int .i64 (j : Int) ∧ ov = .int .i64 z ∧ Hid (z = ((min j R : Nat) : Int) - 1) ∧ Below w.heap.size w wr) (fun _ i _ => n - (intOf i).toNat)
  case atStart => exact ⟨0, -1, Nat.zero_le _, rfl, rfl, Lib.hid (by simp), Below.refl _ _⟩
  case round =>
    obtain ⟨j, z, hj, rfl, rfl, HZ, hb⟩ := hrel
    by_cases hlt : j < n
    · obtain ⟨g, off, rfl, c0, c1⟩ := (HA.out.later hb) j (by rw [HL.out]; exact hlt)
      have HI1 := Lib.hid (HI.out j hlt)
      generalize L.getD j (0, []) = x at *
      obtain ⟨xk, xs⟩ := x
      simp only at c0 c1 HI1
      have i0 : (0 : Int) ≤ (j : Int) := by omega
      have i1 : (j : Int) < (n : Int) := by omega
      by_cases hx : xk ≤ k
      · have HZ2 : Hid ((j : Int) = ((min (j + 1) R : Nat) : Int) - 1) := Lib.hid (by have := HI1.out.2 hx; omega)
        have hx2 : (xk : Int) ≤ (k : Int) := by omega
        clear HI1 HZ
        go_wp2
        exact ⟨⟨j + 1, (j : Int), by omega, by go_num, rfl, HZ2, ba hb _⟩, by simp [intOf]; omega⟩
      · have HZ2 : Hid (z = ((min (j + 1) R : Nat) : Int) - 1) := Lib.hid (by have := HZ.out; have h2 : ¬ j < R := fun h => hx (HI1.out.1 h); omega)
        have hx2 : ¬ (xk : Int) ≤ (k : Int) := by omega
        clear HI1 HZ
        go_wp2
        exact ⟨⟨j + 1, z, by omega, by go_num, rfl, HZ2, ba hb _⟩, by simp [intOf]; omega⟩
    · obtain rfl : j = n := by omega
      have HR : Hid (z = (R : Int) - 1) := Lib.hid (by have := HZ.out; have := HC.out; omega)
      go_wp2
      go_ret
      rw [HR.out]
      exact ⟨rfl, hb⟩
end Go.Proofs.YtegojdblaanclaaDoor
