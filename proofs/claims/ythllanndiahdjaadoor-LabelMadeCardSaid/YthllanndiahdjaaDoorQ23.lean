/- Texts of this seat, one behind the other: IPut. -/
import Derived.Test.YthllanndiahdjaaDoorQ13
import Derived.Test.YthllanndiahdjaaDoorQ14
/- The contracts of Put and Drop. -/
namespace Go.Proofs.YthllanndiahdjaaDoor
open Go.RowKit

/-- What Put tells, and makes. -/
def iputE (L : List ItL) (x : ItL) : Int := if ¬ IRt L then 1 else if ¬ x.2.length ≤ 64 then 4 else if ¬ (ihas L x.1 ∨ L.length < 64) then 6 else 0
def iputR (L : List ItL) (x : ItL) : List ItL := if iputE L x = 0 then iput L x else []
def idropE (L : List ItL) (k : Nat) : Int := if ¬ IRt L then 1 else if ¬ ihas L k then 3 else 0
def idropR (L : List ItL) (k : Nat) : List ItL := if idropE L k = 0 then idrop L k else []
theorem iputE_bad {L : List ItL} {x : ItL} (h : ¬ IRt L) : iputE L x = 1 ∧ iputR L x = [] := by
  have : iputE L x = 1 := by rw [iputE, if_pos h]
  exact ⟨this, by rw [iputR, if_neg (by omega)]⟩
theorem iputE_size {L : List ItL} {x : ItL} (h : IRt L) (h2 : ¬ x.2.length ≤ 64) : iputE L x = 4 ∧ iputR L x = [] := by
  have : iputE L x = 4 := by rw [iputE, if_neg (by simpa using h), if_pos h2]
  exact ⟨this, by rw [iputR, if_neg (by omega)]⟩
theorem iputE_space {L : List ItL} {x : ItL} (h : IRt L) (h2 : x.2.length ≤ 64) (h3 : ¬ (ihas L x.1 ∨ L.length < 64)) : iputE L x = 6 ∧ iputR L x = [] := by
  have : iputE L x = 6 := by rw [iputE, if_neg (by simpa using h), if_neg (by simpa using h2), if_pos h3]
  exact ⟨this, by rw [iputR, if_neg (by omega)]⟩
theorem iputE_yes {L : List ItL} {x : ItL} (h : IRt L) (h2 : x.2.length ≤ 64) (h3 : ihas L x.1 ∨ L.length < 64) : iputE L x = 0 ∧ iputR L x = iput L x := by
  have : iputE L x = 0 := by rw [iputE, if_neg (by simpa using h), if_neg (by simpa using h2), if_neg (fun hh => hh h3)]
  exact ⟨this, by rw [iputR, if_pos this]⟩
theorem idropE_bad {L : List ItL} {k : Nat} (h : ¬ IRt L) : idropE L k = 1 ∧ idropR L k = [] := by
  have : idropE L k = 1 := by rw [idropE, if_pos h]
  exact ⟨this, by rw [idropR, if_neg (by omega)]⟩
theorem idropE_none {L : List ItL} {k : Nat} (h : IRt L) (h2 : ¬ ihas L k) : idropE L k = 3 ∧ idropR L k = [] := by
  have : idropE L k = 3 := by rw [idropE, if_neg (by simpa using h), if_pos h2]
  exact ⟨this, by rw [idropR, if_neg (by omega)]⟩
theorem idropE_yes {L : List ItL} {k : Nat} (h : IRt L) (h2 : ihas L k) : idropE L k = 0 ∧ idropR L k = idrop L k := by
  have : idropE L k = 0 := by rw [idropE, if_neg (by simpa using h), if_neg (fun hh => hh h2)]
  exact ⟨this, by rw [idropR, if_pos this]⟩

set_option maxRecDepth 100000 in
set_option maxHeartbeats 2000000 in
theorem idrop_any (A : Option Addr) (n c k : Nat) (L : List ItL) (w : World) (hA : IR w A L) (hl : L.length = n) (hc : n ≤ c) (hn : n ≤ 1024) :
    Calls Tryd.prog 21 #[.slice A n c, vu k] w fun e w' => ∃ B d, e = .returned (.tuple #[.slice B (idropR L k).length d, .int .i64 (idropE L k)]) ∧ (idropR L k).length ≤ d ∧ IR w' B (idropR L k) ∧ Below w.heap.size w w' := by
  have HRt := Lib.hid (fun W (hb : Below w.heap.size w W) => iright_any A n c L W (hA.later hb) hl (by omega))
  by_cases hr : IRt L
  · rw [decide_eq_true hr] at HRt
    have HP := Lib.hid (fun W (hb : Below w.heap.size w W) => iplace_any A n c k L W (hA.later hb) hl hr.up (by omega))
    have HQ : Hid (∀ p b, IPos L k p → (b = true ↔ p < n ∧ ik L p = k) → (b = true → p < n ∧ idropE L k = 0 ∧ idropR L k = L.take p ++ [] ++ L.drop (p + 1) ∧ (idropR L k).length = p + 0 + (n - (p + 1))) ∧ (b = false → idropE L k = 3 ∧ idropR L k = [])) := Lib.hid fun p b hp hb => by
      refine ⟨fun e => ?_, fun e => ?_⟩
      · obtain ⟨h1, h2⟩ := hb.1 e
        have h3 := idropE_yes hr ((hp.has hr.up).2 ⟨by omega, h2⟩)
        have h4 : idropR L k = L.take p ++ [] ++ L.drop (p + 1) := by rw [h3.2, hp.drop_in hr.up (by omega) h2, List.append_nil]
        refine ⟨h1, h3.1, h4, ?_⟩
        rw [h4]
        simp
        omega
      · refine idropE_none hr fun hh => ?_
        have := (hp.has hr.up).1 hh
        have h4 := hb.2 ⟨by omega, this.2⟩
        rw [e] at h4
        cases h4
    have HC := Lib.hid (fun p W (hb : Below w.heap.size w W) (hp : p < n) => ichanged_any A none n c p (p + 1) 0 0 L [] W (hA.later hb) hl hc (IR.nil _ _) rfl (by omega) (by omega) hn (by omega))
    generalize idropE L k = E at *
    generalize idropR L k = R at *
    clear hA hl
    go_enter Tryd.func21, Tryd.ntmps21
    go_wp2_with fail
    refine (HRt.out _ (Below.refl _ _)).mono ?_
    rintro e w1 ⟨rfl, hb1⟩
    go_wp2_with fail
    refine (HP.out _ hb1).mono ?_
    rintro e w2 ⟨p, b, hp, hbb, rfl, hb2⟩
    obtain ⟨hy, hno⟩ := HQ.out p b hp hbb
    have hb12 := bt hb1 hb2
    clear hp hbb HQ HP HRt
    cases b with
    | true =>
      obtain ⟨h1, rfl, h3, h4⟩ := hy rfl
      have HC1 := Lib.hid (HC.out p w2 hb12 h1)
      rw [← h3, ← h4] at HC1
      clear hy hno h3 h4 HC
      rw [show ((p + 1 : Nat) : Int) = (p : Int) + 1 by omega] at HC1
      go_wp2_with fail
      refine HC1.out.mono ?_
      rintro e w3 ⟨B, d, rfl, hd, hI, hb3⟩
      go_wp2
      go_ret2
      exact ⟨B, d, rfl, hd, hI, bt hb12 hb3⟩
    | false =>
      obtain ⟨rfl, rfl⟩ := hno rfl
      clear hy hno HC
      go_wp2
      go_ret2
      exact ⟨none, 0, rfl, Nat.le_refl _, IR.nil _ _, hb12⟩
  · rw [decide_eq_false hr] at HRt
    obtain ⟨e1, e2⟩ := idropE_bad (k := k) hr
    rw [e1, e2]
    clear hA hl e1 e2
    go_enter Tryd.func21, Tryd.ntmps21
    go_wp2_with fail
    refine (HRt.out _ (Below.refl _ _)).mono ?_
    rintro e w1 ⟨rfl, hb1⟩
    go_wp2
    go_ret2
    exact ⟨none, 0, rfl, Nat.le_refl _, IR.nil _ _, hb1⟩

set_option maxRecDepth 100000 in
set_option maxHeartbeats 4000000 in
theorem iput_any (A : Option Addr) (n c k : Nat) (ks : List UInt8) (L : List ItL) (w : World) (hA : IR w A L) (hl : L.length = n) (hc : n ≤ c) (hn : n ≤ 1024) :
    Calls Tryd.prog 20 #[.slice A n c, .agg #[.int .u64 (k : Int), sv ks]] w fun e w' => ∃ B d, e = .returned (.tuple #[.slice B (iputR L (k, ks)).length d, .int .i64 (iputE L (k, ks))]) ∧ (iputR L (k, ks)).length ≤ d ∧ IR w' B (iputR L (k, ks)) ∧ Below w.heap.size w w' := by
  have hb0 := ba (Below.refl w.heap.size w) (.cells #[.int .u64 (k : Int), sv ks] 24)
  have HK0 : Hid (Blk (w.alloc (.cells #[.int .u64 (k : Int), sv ks] 24)) w.heap.size 24 #[.int .u64 (k : Int), sv ks]) := Lib.hid (Blk.new w _ _)
  have HRt := Lib.hid (fun W (hb : Below w.heap.size w W) => iright_any A n c L W (hA.later hb) hl (by omega))
  have HV := Lib.hid (fun W => isval_any ks W)
  by_cases hr : IRt L
  · rw [decide_eq_true hr] at HRt
    by_cases hv : ks.length ≤ 64
    · rw [decide_eq_true hv] at HV
      have HP := Lib.hid (fun W (hb : Below w.heap.size w W) => iplace_any A n c k L W (hA.later hb) hl hr.up (by omega))
      have HQ : Hid (∀ p b, IPos L k p → (b = true ↔ p < n ∧ ik L p = k) → p ≤ n ∧ (b = true → p < n ∧ iputE L (k, ks) = 0 ∧ iputR L (k, ks) = L.take p ++ [(k, ks)] ++ L.drop (p + 1) ∧ (iputR L (k, ks)).length = p + 1 + (n - (p + 1))) ∧ (b = false → (n = 64 → iputE L (k, ks) = 6 ∧ iputR L (k, ks) = []) ∧ (n ≠ 64 → iputE L (k, ks) = 0 ∧ iputR L (k, ks) = L.take p ++ [(k, ks)] ++ L.drop p ∧ (iputR L (k, ks)).length = p + 1 + (n - p)))) := Lib.hid fun p b hp hb => by
        have hn64 := hr.1
        refine ⟨by have := hp.1; omega, fun e => ?_, fun e => ?_⟩
        · obtain ⟨h1, h2⟩ := hb.1 e
          have h3 := iputE_yes (x := (k, ks)) hr hv (.inl ((hp.has hr.up).2 ⟨by omega, h2⟩))
          have h4 : iputR L (k, ks) = L.take p ++ [(k, ks)] ++ L.drop (p + 1) := by rw [h3.2, IPos.put_in (x := (k, ks)) hp hr.up (by omega) h2]
          refine ⟨h1, h3.1, h4, ?_⟩
          rw [h4]
          simp
          omega
        · have hno : ¬ ihas L k := fun hh => by
            have := (hp.has hr.up).1 hh
            have h4 := hb.2 ⟨by omega, this.2⟩
            rw [e] at h4
            cases h4
          refine ⟨fun h => iputE_space hr hv (fun hh => ?_), fun h => ?_⟩
          · rcases hh with hh | hh
            · exact hno hh
            · omega
          · have h3 := iputE_yes (x := (k, ks)) hr hv (.inr (by omega))
            have h4 : iputR L (k, ks) = L.take p ++ [(k, ks)] ++ L.drop p := by rw [h3.2, IPos.put_new (x := (k, ks)) hp hno]
            refine ⟨h3.1, h4, ?_⟩
            rw [h4]
            have := hp.1
            simp
            omega
      have HC := Lib.hid (fun p q g W (hb : Below w.heap.size w W) (hk : IR W (some ⟨g, 0, none⟩) [(k, ks)]) (hp : p ≤ q) (hq : q ≤ n) => ichanged_any A (some ⟨g, 0, none⟩) n c p q 1 1 L [(k, ks)] W (hA.later hb) hl hc hk rfl hp hq hn (by omega))
      generalize iputE L (k, ks) = E at *
      generalize iputR L (k, ks) = R at *
      clear hA hl
      go_enter Tryd.func20, Tryd.ntmps20
      go_wp2_with fail
      refine (HRt.out _ hb0).mono ?_
      rintro e w1 ⟨rfl, hb1⟩
      have HK1 := Lib.hid (HK0.out.below hb1)
      have b01 := bt hb0 hb1
      have k0 := HK1.out.cell 0
      have k1 := HK1.out.cell 1
      simp only [List.getElem?_toArray, List.getElem?_cons_zero, List.getElem?_cons_succ] at k0 k1
      clear hb0 HK0 hb1 HRt
      go_wp2_with fail
      refine (HV.out _).mono ?_
      rintro e w1' ⟨rfl, rfl⟩
      go_wp2_with fail
      refine (HP.out _ b01).mono ?_
      rintro e w2 ⟨p, b, hp, hbb, rfl, hb2⟩
      obtain ⟨hpn, hy, hno⟩ := HQ.out p b hp hbb
      have hb12 := bt b01 hb2
      have HK2 := Lib.hid (HK1.out.below hb2)
      clear hp hbb HQ HP k0 k1 HK1 b01 hb2 HV
      have k0 := HK2.out.cell 0
      have k1 := HK2.out.cell 1
      simp only [List.getElem?_toArray, List.getElem?_cons_zero, List.getElem?_cons_succ] at k0 k1
      have HI := Lib.hid (blk_IR (L := [(k, ks)]) (Blk.new w2 24 (icells [(k, ks)]).toArray))
      have hb3 := Lib.hid (ba hb12 (.cells (icells [(k, ks)]).toArray 24))
      cases b with
      | true =>
        obtain ⟨h1, rfl, h3, h4⟩ := hy rfl
        have HC1 := Lib.hid (HC.out p (p + 1) w2.heap.size _ hb3.out HI.out (by omega) (by omega))
        rw [← h3, ← h4] at HC1
        clear hy hno h3 h4 HC HI
        rw [show ((p + 1 : Nat) : Int) = (p : Int) + 1 by omega] at HC1
        go_wp2_with fail
        refine HC1.out.mono ?_
        rintro e w3 ⟨B, d, rfl, hd, hI, hb4⟩
        go_wp2
        go_ret2
        exact ⟨B, d, rfl, hd, hI, bt hb3.out hb4⟩
      | false =>
        obtain ⟨hf, hg⟩ := hno rfl
        by_cases h64 : n = 64
        · obtain ⟨rfl, rfl⟩ := hf h64
          subst h64
          clear hy hno HC hf hg
          go_wp2
          go_ret2
          exact ⟨none, 0, rfl, Nat.le_refl _, IR.nil _ _, hb12⟩
        · obtain ⟨rfl, h3, h4⟩ := hg h64
          have HC1 := Lib.hid (HC.out p p w2.heap.size _ hb3.out HI.out (by omega) (by omega))
          rw [← h3, ← h4] at HC1
          have h65 : ((n : Int) == 64) = false := by simp; omega
          clear hy hno h3 h4 HC HI hf hg
          go_wp2_with fail
          refine HC1.out.mono ?_
          rintro e w3 ⟨B, d, rfl, hd, hI, hb4⟩
          go_wp2
          go_ret2
          exact ⟨B, d, rfl, hd, hI, bt hb3.out hb4⟩
    · rw [decide_eq_false hv] at HV
      obtain ⟨e1, e2⟩ := iputE_size (x := (k, ks)) hr hv
      rw [e1, e2]
      clear hA hl e1 e2
      go_enter Tryd.func20, Tryd.ntmps20
      go_wp2_with fail
      refine (HRt.out _ hb0).mono ?_
      rintro e w1 ⟨rfl, hb1⟩
      have HK1 := Lib.hid (HK0.out.below hb1)
      have b01 := bt hb0 hb1
      have k0 := HK1.out.cell 0
      have k1 := HK1.out.cell 1
      simp only [List.getElem?_toArray, List.getElem?_cons_zero, List.getElem?_cons_succ] at k0 k1
      clear hb0 HK0 hb1 HRt
      go_wp2_with fail
      refine (HV.out _).mono ?_
      rintro e w1' ⟨rfl, rfl⟩
      go_wp2
      go_ret2
      exact ⟨none, 0, rfl, Nat.le_refl _, IR.nil _ _, b01⟩
  · rw [decide_eq_false hr] at HRt
    obtain ⟨e1, e2⟩ := iputE_bad (x := (k, ks)) hr
    rw [e1, e2]
    clear hA hl e1 e2
    go_enter Tryd.func20, Tryd.ntmps20
    go_wp2_with fail
    refine (HRt.out _ hb0).mono ?_
    rintro e w1 ⟨rfl, hb1⟩
    have b01 := bt hb0 hb1
    go_wp2
    go_ret2
    exact ⟨none, 0, rfl, Nat.le_refl _, IR.nil _ _, b01⟩
end Go.Proofs.YthllanndiahdjaaDoor
