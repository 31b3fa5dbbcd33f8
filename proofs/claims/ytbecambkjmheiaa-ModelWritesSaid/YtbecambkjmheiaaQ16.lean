/- Texts of this seat, one behind the other: NRSame, NData, NBy, NByB. -/
import Derived.Lib.LazyBuf
import Derived.Test.YtbecambkjmheiaaQ06
import Derived.Test.YtbecambkjmheiaaQ08
import Derived.Test.YtbecambkjmheiaaQ13
/- The reference's Same and Fits. -/
namespace Go.Proofs.Ytbecambkjmheiaa
open Go.RowKit

theorem cgetD_same {L M : List CL} {n : Nat} (hl : L.length = n) (hm : M.length = n) (h : ∀ j, j < n → L.getD j default = M.getD j default) : L = M := by
  apply List.ext_getElem
  · omega
  · intro i h1 h2
    have := h i (by omega)
    rwa [cgetD h1, cgetD h2] at this
set_option maxRecDepth 100000 in
set_option maxHeartbeats 4000000 in
theorem nrsame_any (A B : Option Addr) (c d n m : Nat) (L M : List CL) (w : World) (hA : CR w A L) (hB : CR w B M) (hl : L.length = n) (hm : M.length = m) (hn : n ≤ 65536) (hn2 : m ≤ 65536) :
    Calls Try.prog 24 #[.slice A n c, .slice B m d] w fun e w' => e = .returned (.bool (decide (L = M))) ∧ Below w.heap.size w w' := by
  have HA := Lib.hid hA
  have HB := Lib.hid hB
  have HL := Lib.hid hl
  have HM := Lib.hid hm
  clear hA hB hl hm
  by_cases hnm : n = m
  · subst hnm
    clear hn2
    go_enter Try.func24, Try.ntmps24
    go_wp2_with fail
    go_loopw [13] (fun iv wr => ∃ k : Nat, k ≤ n ∧ iv = .int .i64 k ∧ Hid (∀ j, j < k → L.getD j default = M.getD j default) ∧ Below w.heap.size w wr) (fun i _ => n - (intOf i).toNat)
    case atStart => exact ⟨0, Nat.zero_le _, rfl, Lib.hid (fun j hj => absurd hj (Nat.not_lt_zero j)), Below.refl _ _⟩
    case round =>
      obtain ⟨k, hk, rfl, HE, hb⟩ := hrel
      by_cases hlt : k < n
      · obtain ⟨g, off, rfl, p0, p1, p2⟩ := (HA.out.later hb) k (by rw [HL.out]; exact hlt)
        obtain ⟨g', off', rfl, q0, q1, q2⟩ := (HB.out.later hb) k (by rw [HM.out]; exact hlt)
        have i0 : (0 : Int) ≤ (k : Int) := by omega
        have i1 : (k : Int) < (n : Int) := by omega
        by_cases hxy : L.getD k default = M.getD k default
        · have HE2 : Hid (∀ j, j < k + 1 → L.getD j default = M.getD j default) := Lib.hid (fun j hj => by
            by_cases e : j = k
            · rw [e]; exact hxy
            · exact HE.out j (by omega))
          rw [← hxy] at q0 q1 q2
          clear hxy
          generalize L.getD k default = x at p0 p1 p2 q0 q1 q2
          obtain ⟨xn, xs, xd⟩ := x
          simp only at p0 p1 p2 q0 q1 q2
          go_wp2_with fail
          go_quiet (fail)
          go_wp2
          exact ⟨⟨k + 1, by omega, by go_num, HE2, below_drewN hb _⟩, by simp [intOf]; omega⟩
        · have HN : Hid (decide (L = M) = false) := Lib.hid (by simp; intro e; exact hxy (by rw [e]))
          have HX := Lib.hid hxy
          clear hxy
          generalize L.getD k default = x at p0 p1 p2 HX
          generalize M.getD k default = y at q0 q1 q2 HX
          obtain ⟨xn, xs, xd⟩ := x
          obtain ⟨yn, ys, yd⟩ := y
          simp only at p0 p1 p2 q0 q1 q2
          by_cases h1 : xn = yn
          · subst h1
            by_cases h2 : xs = ys
            · subst h2
              have h5 : ¬ xd = yd := fun e => HX.out (by rw [e])
              have h3 : (xd == yd) = false := by simpa using h5
              have h4 : (xd != yd) = true := by simp [bne, h3]
              clear h5
              go_wp2_with fail
              go_quiet (fail)
              go_wp2
              go_ret
              rw [HN.out]
              exact ⟨rfl, below_drewN hb _⟩
            · have h3 : (xs == ys) = false := by simpa using h2
              have h4 : (xs != ys) = true := by simp [bne, h3]
              clear h2
              go_wp2_with fail
              go_quiet (fail)
              go_wp2
              go_ret
              rw [HN.out]
              exact ⟨rfl, below_drewN hb _⟩
          · have h3 : (xn == yn) = false := by simpa using h1
            have h4 : (xn != yn) = true := by simp [bne, h3]
            have h6 : ((xn : Int) == (yn : Int)) = false := by simp; omega
            have h7 : decide (xn = yn) = false := by simpa using h1
            go_wp2_with fail
            go_quiet (fail)
            go_wp2
            go_ret
            rw [HN.out]
            exact ⟨rfl, below_drewN hb _⟩
      · obtain rfl : k = n := by omega
        have HY : Hid (decide (L = M) = true) := Lib.hid (by simp; exact cgetD_same HL.out HM.out HE.out)
        go_wp2
        go_ret
        rw [HY.out]
        exact ⟨rfl, hb⟩
  · have HN : Hid (decide (L = M) = false) := Lib.hid (by simp; intro e; exact hnm (by rw [← HL.out, ← HM.out, e]))
    have h1 : (n == m) = false := by simp; exact hnm
    have h2 : ((n : Int) == (m : Int)) = false := by simp; omega
    have h3 : ((n : Int) != (m : Int)) = true := by simp; omega
    clear hnm
    go_enter Try.func24, Try.ntmps24
    go_wp2_with fail
    go_ret
    rw [HN.out]
    exact ⟨rfl, Below.refl _ _⟩

set_option maxRecDepth 100000 in
set_option maxHeartbeats 1000000 in
theorem nrfits_any (A B : Option Addr) (n c m d : Nat) (q : Int) (w : World) :
    Calls Try.prog 23 #[.slice A n c, .slice B m d, .int .i64 q] w fun e w' => e = .returned (.bool (decide (m ≤ n ∨ ((m : Int) ≤ q ∧ m ≤ 64)))) ∧ Below w.heap.size w w' := by
  by_cases h1 : m ≤ n
  · rw [decide_eq_true (.inl h1)]
    have h2 : (m : Int) ≤ (n : Int) := by omega
    go_enter Try.func23, Try.ntmps23
    go_wp2
    go_ret
    exact ⟨rfl, Below.refl _ _⟩
  · have h2 : ¬ (m : Int) ≤ (n : Int) := by omega
    by_cases h3 : (m : Int) ≤ q
    · have e : decide (m ≤ n ∨ ((m : Int) ≤ q ∧ m ≤ 64)) = decide ((m : Int) ≤ 64) := by
        rw [decide_eq_decide]; omega
      rw [e]
      clear e
      go_enter Try.func23, Try.ntmps23
      go_wp2
      go_ret
      exact ⟨rfl, Below.refl _ _⟩
    · rw [decide_eq_false (by omega)]
      go_enter Try.func23, Try.ntmps23
      go_wp2
      go_ret
      exact ⟨rfl, Below.refl _ _⟩
end Go.Proofs.Ytbecambkjmheiaa
/- The contracts of dataCell and cleared. -/
namespace Go.Proofs.Ytbecambkjmheiaa
open Go.RowKit

theorem nfrozen_of (W : World) (g : Nat) (cs : Array Value) (t : TypeId) (n m : Nat) (h : W.heap[g]? = some (.cells cs t (n, m))) (j : Nat) (hj : j < n) : W.frozen? ⟨g, j, none⟩ = false := by
  simp [World.frozen?, h]
  omega
abbrev ubv (b : UInt8) : Value := .int .u8 (b.toNat : Int)
/-- '[]byte(s)', a text put over a part of it, and back. -/
theorem ndata_mem (l T : List UInt8) (p : Nat) (w : World) (h : p + T.length ≤ l.length) :
    ∃ c wa, (convert 9 56 (sv l)).run Try.prog w = .ok (.slice (some ⟨w.heap.size, 0, none⟩) l.length c) wa ∧ l.length ≤ c ∧ Below w.heap.size w wa ∧ w.heap.size < wa.heap.size ∧
      ∀ W : World, Below wa.heap.size wa W → (∀ ty dc, (Builtin.copy_ #[56, 9] ty #[.slice (some ⟨w.heap.size, p, none⟩) (l.length - p) dc, sv T]).run Try.prog W = .ok (goInt T.length) (W.setCells w.heap.size p (T.map ubv))) ∧
      (convert 56 9 (.slice (some ⟨w.heap.size, 0, none⟩) l.length c)).run Try.prog (W.setCells w.heap.size p (T.map ubv)) = .ok (sv (l.take p ++ T ++ l.drop (p + T.length))) (W.setCells w.heap.size p (T.map ubv)) := by
  have h9 := run_bytes_of_string (P := Try.prog) w 9 56 5 ⟨l.toArray⟩ Try.underlying9 Try.underlying56 Try.underlying5
  rw [size_of] at h9
  obtain ⟨c, hc⟩ : ∃ c, grownCap w l.length 0 5 = c := ⟨_, rfl⟩
  have hcl : l.length ≤ c := by rw [← hc]; exact grownCap_ge _ _ _ _
  rw [hc] at h9
  have hbk := heap_alloc_new w.drew (.cells (bytesRow ⟨l.toArray⟩ c) 5 ((bytesRow ⟨l.toArray⟩ c).size, (bytesRow ⟨l.toArray⟩ c).size + 1))
  refine ⟨c, _, h9, hcl, (Below.refl w.heap.size w).drew.trans (((Below.refl w.heap.size w.drew).alloc (Nat.le_refl _) _)), by simp, fun W hW => ?_⟩
  have hat0 : ∀ j (hj : j < l.length), (w.drew.alloc (.cells (bytesRow ⟨l.toArray⟩ c) 5 ((bytesRow ⟨l.toArray⟩ c).size, (bytesRow ⟨l.toArray⟩ c).size + 1))).cell? ⟨w.heap.size, j, none⟩ = some (ubv l[j]) ∧ (w.drew.alloc (.cells (bytesRow ⟨l.toArray⟩ c) 5 ((bytesRow ⟨l.toArray⟩ c).size, (bytesRow ⟨l.toArray⟩ c).size + 1))).frozen? ⟨w.heap.size, j, none⟩ = false := fun j hj => by
    have hat : (bytesRow ⟨l.toArray⟩ c)[j]? = some (ubv l[j]) := by
      rw [bytesRow_at ⟨l.toArray⟩ c j (by simpa using hj)]
      rfl
    exact ⟨(cell_of_row _ _ _ _ _ _ hbk).trans hat, nfrozen_of _ _ _ _ _ _ hbk j (Array.getElem?_eq_some_iff.1 hat).1⟩
  have hat : ∀ j (hj : j < l.length), At W w.heap.size j (ubv l[j]) := fun j hj => At.later (hat0 j hj) hW
  constructor
  · intro ty dc
    have := run_copy_string (P := Try.prog) W 56 9 ty 5 w.heap.size p (l.length - p) dc ⟨T.toArray⟩ Try.underlying56 (by
      obtain ⟨ti, hi0, hz0, hz1, hz2⟩ := info_parts info5
      intro w
      simp [sizeOf, typeInfo, hi0, hz1]) (by rw [size_of]; omega) (fun j hj => by rw [size_of] at hj; rw [(hat (p + j) (by omega)).1]; rfl) (fun j hj => by rw [size_of] at hj; exact (hat (p + j) (by omega)).2)
    rw [size_of] at this
    exact this
  · have hlen : (l.take p ++ T ++ l.drop (p + T.length)).length = l.length := by simp; omega
    have := run_convert_bytes_back (P := Try.prog) (W.setCells w.heap.size p (T.map ubv)) 56 9 5 ⟨w.heap.size, 0, none⟩ c (l.take p ++ T ++ l.drop (p + T.length)) Try.underlying56 Try.underlying5 Try.underlying9 (fun j hj => by
      have hj' : j < l.length := by rw [hlen] at hj; exact hj
      rw [Addr.add_lit, Nat.zero_add]
      by_cases a1 : j < p
      · rw [World.cell?_setCells_out _ _ _ _ _ (fun _ _ => .inl a1), (hat j hj').1, List.getElem_append_left (by simp; omega), List.getElem_append_left (by simp; omega), List.getElem_take]
      · by_cases a2 : j < p + T.length
        · have h2 := World.cell?_setCells_in w.heap.size (T.map ubv) p W (fun i hi => by rw [List.length_map] at hi; rw [(hat (p + i) (by omega)).1]; rfl) (j - p) (by simp; omega)
          rw [show p + (j - p) = j by omega] at h2
          rw [h2, List.getElem_append_left (by simp; omega), List.getElem_append_right (by simp; omega)]
          have e9 : j - (List.take p l).length = j - p := by rw [List.length_take]; omega
          simp only [List.getElem_map, e9]
        · rw [World.cell?_setCells_out _ _ _ _ _ (fun _ _ => .inr (by simp; omega)), (hat j hj').1, List.getElem_append_right (by simp; omega), List.getElem_drop]
          have e9 : p + T.length + (j - (List.take p l ++ T).length) = j := by rw [List.length_append, List.length_take]; omega
          simp only [e9])
    rw [hlen] at this
    exact this

set_option maxRecDepth 100000 in
set_option maxHeartbeats 4000000 in
theorem ndata_any (c : CL) (i0 il : Nat) (T : List UInt8) (w : World) (hb : (cbytes c).length = 32) (h1 : i0 < 18446744073709551616) (hT : T.length = il) (h2 : i0 % 32 + il ≤ 32) (h3 : 1 ≤ il) :
    Calls Try.prog 19 #[cv c, .agg #[vu i0, vu il], sv T] w fun e w' => e = .returned (cv ⟨c.n, 1, (cbytes c).take (i0 % 32) ++ T ++ (cbytes c).drop (i0 % 32 + il)⟩) ∧ Below w.heap.size w w' := by
  subst hT
  have HB := Lib.hid (fun W => nbytes_any c W)
  have HP := Lib.hid (fun W => nplace_any i0 T.length W h1)
  have HM := Lib.hid (fun W => ndata_mem (cbytes c) T (i0 % 32) W (by omega))
  generalize cbytes c = l at *
  obtain ⟨p, hp⟩ : ∃ p, i0 % 32 = p := ⟨_, rfl⟩
  rw [hp] at HP HM h2 ⊢
  generalize hN : l.take p ++ T ++ l.drop (p + T.length) = N at *
  have HN := Lib.hid hN
  clear hN hp
  have hp32 : p < 32 := by omega
  go_enter Try.func19, Try.ntmps19
  go_wp2_with fail
  refine (HB.out _).mono ?_
  rintro e w1 ⟨rfl, hb1⟩
  have R0 := At.later (v := vu c.n) (b := w.heap.size) (o := 0) ⟨by go_simp, by go_simp⟩ hb1
  have Q0 := At.later (v := vu i0) (b := w.heap.size + 1) (o := 0) ⟨by go_simp, by go_simp⟩ hb1
  have Q1 := At.later (v := vu T.length) (b := w.heap.size + 1) (o := 1) ⟨by go_simp, by go_simp⟩ hb1
  have S0 := At.later (v := .int .u64 0) (b := w.heap.size + 1 + 1) (o := 0) ⟨by go_simp, by go_simp⟩ hb1
  have S1 := At.later (v := .int .i64 0) (b := w.heap.size + 1 + 1) (o := 1) ⟨by go_simp, by go_simp⟩ hb1
  have S2 := At.later (v := .string ⟨#[]⟩) (b := w.heap.size + 1 + 1) (o := 2) ⟨by go_simp, by go_simp⟩ hb1
  have z1 : w.heap.size + 1 + 1 < w1.heap.size := by have := hb1.size; simp at this; omega
  have HB1 := Lib.hid (bt (ba (ba (ba (Below.refl w.heap.size w) _) _) _) hb1)
  clear hb1
  obtain ⟨cap, wa, hcv, hcap, hba, hsz, hmem⟩ := HM.out w1
  rw [hb] at hcv hcap hmem
  have R0a := R0.later hba
  have Q0a := Q0.later hba
  have Q1a := Q1.later hba
  have S0a := S0.later hba
  have S1a := S1.later hba
  have S2a := S2.later hba
  have HBa := Lib.hid (bt HB1.out hba)
  have HMem := Lib.hid hmem
  have q0 := Q0a.1
  have q1 := Q1a.1
  clear hba hmem R0 Q0 Q1 S0 S1 S2
  go_wp2_with fail
  refine (HP.out _).mono ?_
  rintro e w2 ⟨rfl, hb2⟩
  obtain ⟨hcp, hbk⟩ := HMem.out w2 hb2
  obtain ⟨r0, t0⟩ := R0a.later hb2
  obtain ⟨s0, u0⟩ := S0a.later hb2
  obtain ⟨s1, u1⟩ := S1a.later hb2
  obtain ⟨s2, u2⟩ := S2a.later hb2
  have HB2 := Lib.hid (bt HBa.out hb2)
  obtain ⟨W3, hW3⟩ : ∃ W3, W3 = w2.setCells w1.heap.size p (T.map ubv) := ⟨_, rfl⟩
  rw [← hW3] at hcp hbk
  have hne : ∀ k o, k < w1.heap.size → W3.cell? ⟨k, o, none⟩ = w2.cell? ⟨k, o, none⟩ ∧ W3.frozen? ⟨k, o, none⟩ = w2.frozen? ⟨k, o, none⟩ := fun k o hk => by
    rw [hW3]
    exact ⟨World.cell?_setCells_out _ _ _ _ _ (fun h _ => by simp only at h; omega), World.frozen?_setCells _ _ _ _ _⟩
  rw [← (hne _ _ (by omega)).1] at r0 s0 s1 s2
  rw [← (hne _ _ (by omega)).2] at t0 u0 u1 u2
  have HB3 : Hid (Below w.heap.size w W3) := Lib.hid (by rw [hW3]; exact bw HB2.out (by omega) _ _)
  have z3 : w.heap.size + 1 + 1 < W3.heap.size := by rw [hW3, size_setCells]; have := hb2.size; omega
  have hpn : ¬ (cap = p) := by omega
  have hpc : (p : Int) ≤ 32 := by omega
  clear hne hW3 hb2 t0
  go_wp2
  refine bodyPost_ret (v := cv ⟨c.n, 1, N⟩) (by simp [results, Try.results19, go_sem, s0, s1, s2]) rfl ⟨rfl, ?_⟩
  exact bs (bs (bs HB3.out (by omega) _) (by omega) _) (by omega) _
end Go.Proofs.Ytbecambkjmheiaa
/- The contracts of cleared, and of the four changes of one block. -/
namespace Go.Proofs.Ytbecambkjmheiaa
open Go.RowKit

theorem mp_facts {f len k : Nat} (hk : k < mK f len) (h1 : 1 ≤ len) (h3 : f + len ≤ 18446744073709551616) :
    m0 f k < 18446744073709551616 ∧ m0 f k % 32 + mL f len k ≤ 32 ∧ 1 ≤ mL f len k ∧ f ≤ m0 f k ∧ m0 f k - f + mL f len k ≤ len := by
  have hp := m_part hk h1
  have e : m0 f k = max f (32 * (f / 32 + k)) := rfl
  have e2 : mL f len k = min (f + len) (32 * (f / 32 + k) + 32) - m0 f k := rfl
  omega
theorem mp_whole {f len k : Nat} : mL f len k = 32 ↔ cWhole f len (f / 32 + k) := by
  have e : m0 f k = max f (32 * (f / 32 + k)) := rfl
  have e2 : mL f len k = min (f + len) (32 * (f / 32 + k) + 32) - m0 f k := rfl
  unfold cWhole
  omega
/-- What dataCell makes of a part. -/
theorem mp_mix {g : Nat → UInt8} {f len k : Nat} {c : CL} {T : List UInt8} (hc : (cbytes c).length = 32) (hn : c.n = f / 32 + k) (hk : k < mK f len) (h1 : 1 ≤ len) (hT : T.length = mL f len k) (hg : ∀ j, j < mL f len k → T.getD j 0 = g (m0 f k + j - f)) :
    (cbytes c).take (m0 f k % 32) ++ T ++ (cbytes c).drop (m0 f k % 32 + mL f len k) = cmix g f len c :=
  cmix_splice hc (by rw [hn]; rfl) (by rw [hn]; rfl) (by rw [hn]; exact m_part hk h1) hT hg
/-- What cleared makes. -/
def cClear (f len : Nat) (c : CL) : CL := if c.s = 1 then ⟨c.n, 1, cmix (fun _ => 0) f len c⟩ else c

/-- A cell's block and a part's, to be read; a cell's block to be written. -/
abbrev NB3 (a b : Nat) (c : CL) (i0 il : Nat) (w W : World) : Prop :=
  W.cell? ⟨a, 0, none⟩ = some (vu c.n) ∧ W.cell? ⟨a, 1, none⟩ = some (.int .i64 c.s) ∧ W.cell? ⟨a, 2, none⟩ = some (sv c.d) ∧ W.cell? ⟨b, 0, none⟩ = some (vu i0) ∧ W.cell? ⟨b, 1, none⟩ = some (vu il) ∧
  (∃ cs, Blk W (b + 1) 45 cs ∧ cs.size = 3) ∧ Below w.heap.size w W
theorem NB3.later {a b : Nat} {c : CL} {i0 il : Nat} {w W V : World} (h : NB3 a b c i0 il w W) (hb : Below W.heap.size W V) : NB3 a b c i0 il w V := by
  obtain ⟨h0, h1, h2, h3, h4, ⟨cs, h5, h6⟩, h7⟩ := h
  exact ⟨cell_later hb h0, cell_later hb h1, cell_later hb h2, cell_later hb h3, cell_later hb h4, ⟨cs, h5.below hb, h6⟩, bt h7 hb⟩
theorem NB3.drew {a b : Nat} {c : CL} {i0 il : Nat} {w W : World} (h : NB3 a b c i0 il w W) : NB3 a b c i0 il w W.drew := by
  obtain ⟨h0, h1, h2, h3, h4, ⟨cs, h5, h6⟩, h7⟩ := h
  exact ⟨h0, h1, h2, h3, h4, ⟨cs, h5.drew, h6⟩, h7.drew⟩
theorem NB3.res {a b : Nat} {c : CL} {i0 il : Nat} {w W : World} (h : NB3 a b c i0 il w W) :
    ∃ v0 v1 v2, W.cell? ⟨b + 1, 0, none⟩ = some v0 ∧ W.cell? ⟨b + 1, 1, none⟩ = some v1 ∧ W.cell? ⟨b + 1, 2, none⟩ = some v2 ∧ W.frozen? ⟨b + 1, 0, none⟩ = false ∧ W.frozen? ⟨b + 1, 1, none⟩ = false ∧ W.frozen? ⟨b + 1, 2, none⟩ = false := by
  obtain ⟨_, _, _, _, _, ⟨cs, h5, h6⟩, h7⟩ := h
  obtain ⟨l⟩ := cs
  match l, h6 with
  | [x, y, z], _ => exact ⟨x, y, z, h5.cell 0, h5.cell 1, h5.cell 2, h5.frozen 0, h5.frozen 1, h5.frozen 2⟩
theorem NB3.stored {a b : Nat} {c : CL} {i0 il : Nat} {w W : World} (h : NB3 a b c i0 il w W) (ha : a ≠ b + 1) (hw : w.heap.size ≤ b + 1) (v0 v1 v2 : Value) : NB3 a b c i0 il w (((W.setCell ⟨b + 1, 0, none⟩ v0).setCell ⟨b + 1, 1, none⟩ v1).setCell ⟨b + 1, 2, none⟩ v2) := by
  obtain ⟨h0, h1, h2, h3, h4, ⟨cs, h5, h6⟩, h7⟩ := h
  have hc : ∀ (U : World) (k o j : Nat) (v : Value), k ≠ b + 1 → (U.setCell ⟨b + 1, j, none⟩ v).cell? ⟨k, o, none⟩ = U.cell? ⟨k, o, none⟩ := fun U k o j v hk => by
    have := Below.heap_setCell U ⟨b + 1, j, none⟩ v k hk
    simp only [World.cell?, this]
  refine ⟨?_, ?_, ?_, ?_, ?_, ⟨_, ((h5.set_ 0 v0).set_ 1 v1).set_ 2 v2, by simpa using h6⟩, bs (bs (bs h7 hw _) hw _) hw _⟩
  all_goals
    rw [hc _ _ _ _ _ (by omega), hc _ _ _ _ _ (by omega), hc _ _ _ _ _ (by omega)]
    assumption
/-- What is laid in the result's cells. -/
theorem NB3.out {a b : Nat} {c : CL} {i0 il : Nat} {w W : World} (h : NB3 a b c i0 il w W) (hw : w.heap.size ≤ b + 1) (v0 v1 v2 : Value) :
    ((((W.setCell ⟨b + 1, 0, none⟩ v0).setCell ⟨b + 1, 1, none⟩ v1).setCell ⟨b + 1, 2, none⟩ v2).cell? ⟨b + 1, 0, none⟩ = some v0 ∧ (((W.setCell ⟨b + 1, 0, none⟩ v0).setCell ⟨b + 1, 1, none⟩ v1).setCell ⟨b + 1, 2, none⟩ v2).cell? ⟨b + 1, 1, none⟩ = some v1 ∧
      (((W.setCell ⟨b + 1, 0, none⟩ v0).setCell ⟨b + 1, 1, none⟩ v1).setCell ⟨b + 1, 2, none⟩ v2).cell? ⟨b + 1, 2, none⟩ = some v2) ∧ Below w.heap.size w (((W.setCell ⟨b + 1, 0, none⟩ v0).setCell ⟨b + 1, 1, none⟩ v1).setCell ⟨b + 1, 2, none⟩ v2) := by
  obtain ⟨_, _, _, _, _, ⟨cs, h5, h6⟩, h7⟩ := h
  have hB := ((h5.set_ 0 v0).set_ 1 v1).set_ 2 v2
  obtain ⟨l⟩ := cs
  match l, h6 with
  | [x, y, z], _ => exact ⟨⟨hB.cell 0, hB.cell 1, hB.cell 2⟩, bs (bs (bs h7 hw _) hw _) hw _⟩

theorem NB3.start (c : CL) (i0 il : Nat) (w : World) : NB3 w.heap.size (w.heap.size + 1) c i0 il w (((w.alloc (.cells #[vu c.n, .int .i64 c.s, sv c.d] 45)).alloc (.cells #[vu i0, vu il] 25)).alloc (.cells #[.int .u64 0, .int .i64 0, .string ⟨#[]⟩] 45)) := by
  have b0 := ((Blk.new w 45 #[vu c.n, .int .i64 c.s, sv c.d]).alloc (.cells #[vu i0, vu il] 25)).alloc (.cells #[.int .u64 0, .int .i64 0, .string ⟨#[]⟩] 45)
  have b1 := (Blk.newAt (w := w.alloc (.cells #[vu c.n, .int .i64 c.s, sv c.d] 45)) (g := w.heap.size + 1) (by simp) 25 #[vu i0, vu il]).alloc (.cells #[.int .u64 0, .int .i64 0, .string ⟨#[]⟩] 45)
  have b2 := Blk.newAt (w := (w.alloc (.cells #[vu c.n, .int .i64 c.s, sv c.d] 45)).alloc (.cells #[vu i0, vu il] 25)) (g := w.heap.size + 1 + 1) (by simp) 45 #[.int .u64 0, .int .i64 0, .string ⟨#[]⟩]
  exact ⟨b0.cell 0, b0.cell 1, b0.cell 2, b1.cell 0, b1.cell 1, ⟨_, b2, rfl⟩, ba (ba (ba (Below.refl _ _) _) _) _⟩

set_option maxRecDepth 100000 in
set_option maxHeartbeats 4000000 in
theorem ncleared_any (f len k : Nat) (c : CL) (w : World) (hn : c.n = f / 32 + k) (hk : k < mK f len) (h1 : 1 ≤ len) (h3 : f + len ≤ 18446744073709551616) (hc : CIs c) :
    Calls Try.prog 28 #[cv c, me2 f len k] w fun e w' => e = .returned (cv (cClear f len c)) ∧ Below w.heap.size w w' := by
  obtain ⟨p1, p2, p3, _, _⟩ := mp_facts hk h1 h3
  show Calls Try.prog 28 #[cv c, .agg #[vu (m0 f k), vu (mL f len k)]] w _
  by_cases hs : c.s = 1
  · have HZ := Lib.hid (fun W => nzeros_any (mL f len k) W (by omega))
    have HD := Lib.hid (fun W => ndata_any c (m0 f k) (mL f len k) (List.replicate (mL f len k) 0) W (cis_len hc) p1 (by simp) p2 p3)
    have e : cClear f len c = ⟨c.n, 1, (cbytes c).take (m0 f k % 32) ++ List.replicate (mL f len k) 0 ++ (cbytes c).drop (m0 f k % 32 + mL f len k)⟩ := by
      rw [cClear, if_pos hs, mp_mix (g := fun _ => 0) (cis_len hc) hn hk h1 (by simp) (fun j _ => crep_get _ _)]
    rw [e]
    generalize (cbytes c).take (m0 f k % 32) ++ List.replicate (mL f len k) 0 ++ (cbytes c).drop (m0 f k % 32 + mL f len k) = N at *
    generalize List.replicate (mL f len k) (0 : UInt8) = Z at *
    have hil : mL f len k ≤ 32 := by omega
    have hw : IntKind.i64.wrap ((mL f len k : Nat) : Int) = ((mL f len k : Nat) : Int) := by rw [IntKind.wrap_i64]; omega
    generalize mL f len k = il at *
    generalize m0 f k = i0 at *
    obtain ⟨n, s, d⟩ := c
    simp only at hs
    subst hs
    clear e hn hc
    go_enter Try.func28, Try.ntmps28
    go_wp2
    have hS0 := NB3.start ⟨n, 1, d⟩ i0 il w
    generalize ((w.alloc (.cells #[vu n, .int .i64 1, sv d] 45)).alloc (.cells #[vu i0, vu il] 25)).alloc (.cells #[.int .u64 0, .int .i64 0, .string ⟨#[]⟩] 45) = W0 at hS0 ⊢
    go_region_held3 (fun W => NB3 w.heap.size (w.heap.size + 1) ⟨n, 1, d⟩ i0 il w W) (first | exact hS0.drew | assumption | (exact NB3.stored (by assumption) (by omega) (by omega) _ _ _) | go_keep) (first | (go_at_call 48; refine (HZ.out _).mono ?_; rintro e w1 ⟨rfl, hb1⟩; have hS := NB3.later (by assumption) hb1) | (go_at_call 19; refine (HD.out _).mono ?_; rintro e w2 ⟨rfl, hb2⟩; have hS := NB3.later (by assumption) hb2; obtain ⟨_, _, _, r0, r1, r2, s0, s1, s2⟩ := hS.res))
    obtain ⟨⟨o0, o1, o2⟩, hbl⟩ := hS.out (by omega) (.int .u64 (n : Int)) (.int .i64 1) (.string ⟨N.toArray⟩)
    go_wp2
    refine bodyPost_ret (v := cv ⟨n, 1, N⟩) (by simp [results, Try.results28, go_sem, o0, o1, o2]) rfl ⟨rfl, hbl⟩
  · have e : cClear f len c = c := by rw [cClear, if_neg hs]
    rw [e]
    have hs' : (c.s != 1) = true := by simpa using hs
    have hs2 : decide (c.s = 1) = false := by simpa using hs
    clear e hn hc
    go_enter Try.func28, Try.ntmps28
    go_wp2
    refine bodyPost_ret (v := cv c) (by simp [results, Try.results28, go_sem]) rfl ⟨rfl, ?_⟩
    exact ba (ba (ba (Below.refl _ _) _) _) _

/-- What a change of one block has to make. -/
def ByF (w : World) (fn : Nat) (lb : Array Value) (F : CL → CL) (f len : Nat) : Prop :=
  ∀ W, Below w.heap.size w W → ∀ c k, k < mK f len → c.n = f / 32 + k → CIs c → Calls Try.prog fn (#[cv c, me2 f len k] ++ lb) W fun e w' => e = .returned (cv (F c)) ∧ Below W.heap.size W w'

theorem nextract (l : List UInt8) (a b : Nat) : (⟨l.toArray⟩ : ByteArray).extract a b = ⟨((l.take b).drop a).toArray⟩ := by
  simp [ByteArray.extract, ByteArray.copySlice]
  exact List.drop_take.symm
theorem nby_later {a b : Nat} {c : CL} {i0 il bf bd : Nat} {u v : Value} {w W V : World} (h : NB3 a b c i0 il w W ∧ W.cell? ⟨bf, 0, none⟩ = some u ∧ W.cell? ⟨bd, 0, none⟩ = some v) (hb : Below W.heap.size W V) :
    NB3 a b c i0 il w V ∧ V.cell? ⟨bf, 0, none⟩ = some u ∧ V.cell? ⟨bd, 0, none⟩ = some v := ⟨h.1.later hb, cell_later hb h.2.1, cell_later hb h.2.2⟩
theorem nby_stored {a b : Nat} {c : CL} {i0 il bf bd : Nat} {u v : Value} {w W : World} (h : NB3 a b c i0 il w W ∧ W.cell? ⟨bf, 0, none⟩ = some u ∧ W.cell? ⟨bd, 0, none⟩ = some v) (hw : w.heap.size ≤ b + 1) (ha : a ≠ b + 1 ∧ bf ≠ b + 1 ∧ bd ≠ b + 1) (v0 v1 v2 : Value) :
    NB3 a b c i0 il w (((W.setCell ⟨b + 1, 0, none⟩ v0).setCell ⟨b + 1, 1, none⟩ v1).setCell ⟨b + 1, 2, none⟩ v2) ∧ (((W.setCell ⟨b + 1, 0, none⟩ v0).setCell ⟨b + 1, 1, none⟩ v1).setCell ⟨b + 1, 2, none⟩ v2).cell? ⟨bf, 0, none⟩ = some u ∧ (((W.setCell ⟨b + 1, 0, none⟩ v0).setCell ⟨b + 1, 1, none⟩ v1).setCell ⟨b + 1, 2, none⟩ v2).cell? ⟨bd, 0, none⟩ = some v := by
  have hc : ∀ (U : World) (k o j : Nat) (v : Value), k ≠ b + 1 → (U.setCell ⟨b + 1, j, none⟩ v).cell? ⟨k, o, none⟩ = U.cell? ⟨k, o, none⟩ := fun U k o j v hk => by
    have := Below.heap_setCell U ⟨b + 1, j, none⟩ v k hk
    simp only [World.cell?, this]
  obtain ⟨h1, h2, h3⟩ := h
  refine ⟨h1.stored ha.1 hw v0 v1 v2, ?_, ?_⟩
  all_goals
    rw [hc _ _ _ _ _ (by omega), hc _ _ _ _ _ (by omega), hc _ _ _ _ _ (by omega)]
    assumption
set_option maxRecDepth 100000 in
set_option maxHeartbeats 4000000 in
theorem nby_write (bf bd f len : Nat) (data : List UInt8) (w : World) (hf : w.cell? ⟨bf, 0, none⟩ = some (vu f)) (hd : w.cell? ⟨bd, 0, none⟩ = some (sv data)) (hl : data.length = len) (h1 : 1 ≤ len) (h3 : f + len ≤ 18446744073709551616) :
    ByF w 18 #[.pointer (some ⟨bd, 0, none⟩), .pointer (some ⟨bf, 0, none⟩)] (cF 1 (fun j => data.getD j 0) f len) f len := by
  intro W hW c k hk hn hc
  obtain ⟨p1, p2, p3, p4, p5⟩ := mp_facts hk h1 h3
  have hfW := cell_later hW hf
  have hdW := cell_later hW hd
  clear hf hd hW
  have e : cF 1 (fun j => data.getD j 0) f len c = ⟨c.n, 1, (cbytes c).take (m0 f k % 32) ++ (data.drop (m0 f k - f)).take (mL f len k) ++ (cbytes c).drop (m0 f k % 32 + mL f len k)⟩ := by
    rw [cF, if_pos rfl, mp_mix (g := fun j => data.getD j 0) (cis_len hc) hn hk h1 (by simp; omega) (fun j hj => by
      have e1 : m0 f k + j - f = m0 f k - f + j := by omega
      rw [e1, List.getD, List.getD, List.getElem?_take, if_pos hj, List.getElem?_drop])]
  rw [e]
  have HD := Lib.hid (fun V => ndata_any c (m0 f k) (mL f len k) ((data.drop (m0 f k - f)).take (mL f len k)) V (cis_len hc) p1 (by simp; omega) p2 p3)
  have hx1 : (⟨data.toArray⟩ : ByteArray).extract (m0 f k - f) len = ⟨(data.drop (m0 f k - f)).toArray⟩ := by
    rw [nextract, ← hl, List.take_length]
  have hx2 : (⟨(data.drop (m0 f k - f)).toArray⟩ : ByteArray).extract 0 (mL f len k) = ⟨((data.drop (m0 f k - f)).take (mL f len k)).toArray⟩ := by
    rw [nextract, List.drop_zero]
  have hs1 : (⟨data.toArray⟩ : ByteArray).size = len := by rw [size_of, hl]
  have hs2 : (⟨(data.drop (m0 f k - f)).toArray⟩ : ByteArray).size = len - (m0 f k - f) := by rw [size_of, List.length_drop, hl]
  generalize hN : (cbytes c).take (m0 f k % 32) ++ (data.drop (m0 f k - f)).take (mL f len k) ++ (cbytes c).drop (m0 f k % 32 + mL f len k) = N at *
  have hw1 : IntKind.u64.wrap (((m0 f k : Nat) : Int) - (f : Int)) = ((m0 f k - f : Nat) : Int) := by rw [IntWalk.u64_in _ ⟨by omega, by omega⟩]; omega
  show Calls Try.prog 18 #[cv c, .agg #[vu (m0 f k), vu (mL f len k)], .pointer (some ⟨bd, 0, none⟩), .pointer (some ⟨bf, 0, none⟩)] W _
  clear e hc hn hN hk hl
  generalize (data.drop (m0 f k - f)).take (mL f len k) = T at *
  generalize data.drop (m0 f k - f) = D at *
  generalize mL f len k = il at *
  have hpl : m0 f k - f ≤ len := by omega
  obtain ⟨p, hp⟩ : ∃ p, m0 f k - f = p := ⟨_, rfl⟩
  rw [hp] at hx1 hs2 hw1 hpl
  have hq1 : (p : Int) ≤ (len : Int) := by omega
  have hq2 : il ≤ len - p := by omega
  have hq3 : (il : Int) ≤ ((len - p : Nat) : Int) := by omega
  have hq4 : (0 : Int) ≤ (p : Int) := by omega
  clear hp p4 p5
  generalize m0 f k = i0 at *
  have hlW : bf < W.heap.size ∧ bd < W.heap.size := ⟨World.block_lt_of_cell? _ _ hfW, World.block_lt_of_cell? _ _ hdW⟩
  go_enter Try.func18, Try.ntmps18
  go_wp2
  have hS0 := NB3.start c i0 il W
  have hb3 : Below W.heap.size W (((W.alloc (.cells #[vu c.n, .int .i64 c.s, sv c.d] 45)).alloc (.cells #[vu i0, vu il] 25)).alloc (.cells #[.int .u64 0, .int .i64 0, .string ⟨#[]⟩] 45)) := ba (ba (ba (Below.refl _ _) _) _) _
  have f0 := cell_later hb3 hfW
  have d0 := cell_later hb3 hdW
  clear hb3
  generalize ((W.alloc (.cells #[vu c.n, .int .i64 c.s, sv c.d] 45)).alloc (.cells #[vu i0, vu il] 25)).alloc (.cells #[.int .u64 0, .int .i64 0, .string ⟨#[]⟩] 45) = W0 at hS0 f0 d0 ⊢
  go_region_held3 (fun V => NB3 W.heap.size (W.heap.size + 1) c i0 il W V ∧ V.cell? ⟨bf, 0, none⟩ = some (vu f) ∧ V.cell? ⟨bd, 0, none⟩ = some (sv data)) (first | exact ⟨hS0.drew, f0, d0⟩ | assumption | (exact nby_stored (by assumption) (by omega) (by omega) _ _ _) | go_keep) (first | (go_at_call 19; refine (HD.out _).mono ?_; rintro e w2 ⟨rfl, hb2⟩; have hS := nby_later (by assumption) hb2; obtain ⟨_, _, _, r0, r1, r2, s0, s1, s2⟩ := hS.1.res))
  obtain ⟨⟨o0, o1, o2⟩, hbl⟩ := hS.1.out (by omega) (.int .u64 (c.n : Int)) (.int .i64 1) (.string ⟨N.toArray⟩)
  go_wp2
  refine bodyPost_ret (v := cv ⟨c.n, 1, N⟩) (by simp [results, Try.results18, go_sem, o0, o1, o2]) rfl ⟨rfl, hbl⟩
end Go.Proofs.Ytbecambkjmheiaa
/- The contracts of the changes of one block: discarding, zeroing, reserving. -/
namespace Go.Proofs.Ytbecambkjmheiaa
open Go.RowKit

theorem cF_two (g : Nat → UInt8) (f len k : Nat) (c : CL) (hn : c.n = f / 32 + k) : cF 2 g f len c = if mL f len k = 32 then cHole c.n else cClear f len c := by
  have hwh : cWhole f len c.n ↔ mL f len k = 32 := by rw [hn]; exact mp_whole.symm
  unfold cF cClear
  rw [if_neg (show ¬ (2 : Nat) = 1 by omega), if_neg (show ¬ (2 : Nat) = 4 by omega)]
  by_cases h : cWhole f len c.n
  · rw [if_pos h, if_neg (show ¬ ((2 : Nat) = 3 ∧ c.s ≠ 0) from fun h => by omega), if_pos (hwh.1 h)]
  · rw [if_neg h, if_neg (fun h' => h (hwh.2 h'))]
theorem cF_three (g : Nat → UInt8) (f len k : Nat) (c : CL) (hn : c.n = f / 32 + k) (hc : CIs c) : cF 3 g f len c = if mL f len k = 32 ∧ c.s = 1 then ⟨c.n, 2, []⟩ else cClear f len c := by
  have hwh : cWhole f len c.n ↔ mL f len k = 32 := by rw [hn]; exact mp_whole.symm
  unfold cF cClear
  rw [if_neg (show ¬ (3 : Nat) = 1 by omega), if_neg (show ¬ (3 : Nat) = 4 by omega)]
  by_cases h : cWhole f len c.n
  · rw [if_pos h]
    have h' := hwh.1 h
    by_cases hs : c.s = 1
    · rw [if_pos (show (3 : Nat) = 3 ∧ c.s ≠ 0 from ⟨rfl, by omega⟩), if_pos ⟨h', hs⟩]
    · rw [if_neg (show ¬ (mL f len k = 32 ∧ c.s = 1) from fun hh => hs hh.2), if_neg hs]
      rcases hc with ⟨_, h8 | h8⟩ | h8
      · exact absurd h8.1 hs
      · rw [if_pos (show (3 : Nat) = 3 ∧ c.s ≠ 0 from ⟨rfl, by omega⟩)]
        obtain ⟨cn, cs, cd⟩ := c
        obtain ⟨h81, h82⟩ := h8
        simp only at h81 h82
        rw [h81, h82]
      · have h0 : c.s = 0 := by rw [h8]; rfl
        rw [if_neg (show ¬ ((3 : Nat) = 3 ∧ c.s ≠ 0) from fun hh => hh.2 h0)]
        exact h8.symm
  · rw [if_neg h, if_neg (show ¬ (mL f len k = 32 ∧ c.s = 1) from fun hh => h (hwh.2 hh.1))]

set_option maxRecDepth 100000 in
set_option maxHeartbeats 4000000 in
theorem nby_discard (g : Nat → UInt8) (f len : Nat) (w : World) (h1 : 1 ≤ len) (h3 : f + len ≤ 18446744073709551616) : ByF w 26 #[] (cF 2 g f len) f len := by
  intro W hW c k hk hn hc
  have HW := Lib.hid (fun V => nwhole_any (m0 f k) (mL f len k) V)
  have HC := Lib.hid (fun V => ncleared_any f len k c V hn hk h1 h3 hc)
  have e := cF_two g f len k c hn
  rw [e]
  show Calls Try.prog 26 #[cv c, .agg #[vu (m0 f k), vu (mL f len k)]] W _
  generalize cClear f len c = D at *
  clear e hn hc hk hW
  by_cases h : mL f len k = 32
  · rw [if_pos h]
    rw [decide_eq_true h] at HW
    clear h
    go_enter Try.func26, Try.ntmps26
    go_wp2_with fail
    have hS0 := NB3.start c (m0 f k) (mL f len k) W
    refine (HW.out _).mono ?_
    rintro e w1 ⟨rfl, hb1⟩
    obtain ⟨q0, _⟩ := hS0.later hb1
    obtain ⟨_, _, _, r0, r1, r2, s0, s1, s2⟩ := (hS0.later hb1).res
    obtain ⟨⟨o0, o1, o2⟩, hbl⟩ := (hS0.later hb1).out (by omega) (.int .u64 (c.n : Int)) (.int .i64 0) (.string ⟨#[]⟩)
    clear hS0
    go_wp2
    refine bodyPost_ret (v := cv (cHole c.n)) (by simp [results, Try.results26, go_sem, o0, o1, o2, cHole]) rfl ⟨rfl, hbl⟩
  · rw [if_neg h]
    rw [decide_eq_false h] at HW
    clear h
    go_enter Try.func26, Try.ntmps26
    go_wp2_with fail
    have hS0 := NB3.start c (m0 f k) (mL f len k) W
    refine (HW.out _).mono ?_
    rintro e w1 ⟨rfl, hb1⟩
    have hS1 := hS0.later hb1
    clear hS0 hb1
    obtain ⟨q0, q1, q2, p0, p1, _⟩ := id hS1
    go_wp2_with fail
    refine (HC.out _).mono ?_
    rintro e w2 ⟨rfl, hb2⟩
    have hS2 := hS1.later hb2
    clear hS1 hb2 q0 q1 q2 p0 p1
    obtain ⟨_, _, _, r0, r1, r2, s0, s1, s2⟩ := hS2.res
    obtain ⟨⟨o0, o1, o2⟩, hbl⟩ := hS2.out (by omega) (.int .u64 (D.n : Int)) (.int .i64 D.s) (.string ⟨D.d.toArray⟩)
    clear hS2
    go_wp2
    refine bodyPost_ret (v := cv D) (by simp [results, Try.results26, go_sem, o0, o1, o2]) rfl ⟨rfl, hbl⟩

set_option maxRecDepth 100000 in
set_option maxHeartbeats 4000000 in
theorem nby_zero (g : Nat → UInt8) (f len : Nat) (w : World) (h1 : 1 ≤ len) (h3 : f + len ≤ 18446744073709551616) : ByF w 29 #[] (cF 3 g f len) f len := by
  intro W hW c k hk hn hc
  have HW := Lib.hid (fun V => nwhole_any (m0 f k) (mL f len k) V)
  have HC := Lib.hid (fun V => ncleared_any f len k c V hn hk h1 h3 hc)
  have e := cF_three g f len k c hn hc
  rw [e]
  show Calls Try.prog 29 #[cv c, .agg #[vu (m0 f k), vu (mL f len k)]] W _
  generalize cClear f len c = D at *
  clear e hn hc hk hW
  by_cases h : mL f len k = 32 ∧ c.s = 1
  · rw [if_pos h]
    rw [decide_eq_true h.1] at HW
    obtain ⟨n, s, d⟩ := c
    obtain ⟨h9, hs⟩ := h
    clear h9
    simp only at hs
    subst hs
    go_enter Try.func29, Try.ntmps29
    go_wp2_with fail
    have hS0 := NB3.start ⟨n, 1, d⟩ (m0 f k) (mL f len k) W
    refine (HW.out _).mono ?_
    rintro e w1 ⟨rfl, hb1⟩
    obtain ⟨q0, q1, _⟩ := hS0.later hb1
    obtain ⟨_, _, _, r0, r1, r2, s0, s1, s2⟩ := (hS0.later hb1).res
    obtain ⟨⟨o0, o1, o2⟩, hbl⟩ := (hS0.later hb1).out (by omega) (.int .u64 (n : Int)) (.int .i64 2) (.string ⟨#[]⟩)
    clear hS0
    go_wp2
    refine bodyPost_ret (v := cv ⟨n, 2, []⟩) (by simp [results, Try.results29, go_sem, o0, o1, o2]) rfl ⟨rfl, hbl⟩
  · rw [if_neg h]
    by_cases h32 : mL f len k = 32
    · rw [decide_eq_true h32] at HW
      have hs : decide (c.s = 1) = false := by simp only [decide_eq_false_iff_not]; exact fun hs => h ⟨h32, hs⟩
      have hs2 : ¬ (c.s = 1) := fun hs => h ⟨h32, hs⟩
      clear h h32
      go_enter Try.func29, Try.ntmps29
      go_wp2_with fail
      have hS0 := NB3.start c (m0 f k) (mL f len k) W
      refine (HW.out _).mono ?_
      rintro e w1 ⟨rfl, hb1⟩
      have hS1 := hS0.later hb1
      clear hS0 hb1
      obtain ⟨q0, q1, q2, p0, p1, _⟩ := id hS1
      go_wp2_with fail
      refine (HC.out _).mono ?_
      rintro e w2 ⟨rfl, hb2⟩
      have hS2 := hS1.later hb2
      clear hS1 hb2 q0 q1 q2 p0 p1
      obtain ⟨_, _, _, r0, r1, r2, s0, s1, s2⟩ := hS2.res
      obtain ⟨⟨o0, o1, o2⟩, hbl⟩ := hS2.out (by omega) (.int .u64 (D.n : Int)) (.int .i64 D.s) (.string ⟨D.d.toArray⟩)
      clear hS2
      go_wp2
      refine bodyPost_ret (v := cv D) (by simp [results, Try.results29, go_sem, o0, o1, o2]) rfl ⟨rfl, hbl⟩
    · rw [decide_eq_false h32] at HW
      clear h h32
      go_enter Try.func29, Try.ntmps29
      go_wp2_with fail
      have hS0 := NB3.start c (m0 f k) (mL f len k) W
      refine (HW.out _).mono ?_
      rintro e w1 ⟨rfl, hb1⟩
      have hS1 := hS0.later hb1
      clear hS0 hb1
      obtain ⟨q0, q1, q2, p0, p1, _⟩ := id hS1
      go_wp2_with fail
      refine (HC.out _).mono ?_
      rintro e w2 ⟨rfl, hb2⟩
      have hS2 := hS1.later hb2
      clear hS1 hb2 q0 q1 q2 p0 p1
      obtain ⟨_, _, _, r0, r1, r2, s0, s1, s2⟩ := hS2.res
      obtain ⟨⟨o0, o1, o2⟩, hbl⟩ := hS2.out (by omega) (.int .u64 (D.n : Int)) (.int .i64 D.s) (.string ⟨D.d.toArray⟩)
      clear hS2
      go_wp2
      refine bodyPost_ret (v := cv D) (by simp [results, Try.results29, go_sem, o0, o1, o2]) rfl ⟨rfl, hbl⟩

set_option maxRecDepth 100000 in
set_option maxHeartbeats 4000000 in
theorem nby_reserve (g : Nat → UInt8) (f len : Nat) (w : World) : ByF w 20 #[] (cF 4 g f len) f len := by
  intro W hW c k hk hn hc
  have e : cF 4 g f len c = if c.s = 0 then ⟨c.n, 2, []⟩ else c := by
    unfold cF
    rw [if_neg (by omega), if_pos rfl]
  rw [e]
  show Calls Try.prog 20 #[cv c, .agg #[vu (m0 f k), vu (mL f len k)]] W _
  clear e hn hc hk hW
  by_cases h : c.s = 0
  · rw [if_pos h]
    obtain ⟨n, s, d⟩ := c
    simp only at h
    subst h
    go_enter Try.func20, Try.ntmps20
    go_wp2
    refine bodyPost_ret (v := cv ⟨n, 2, []⟩) (by simp [results, Try.results20, go_sem]) rfl ⟨rfl, ?_⟩
    exact ba (ba (ba (Below.refl _ _) _) _) _
  · rw [if_neg h]
    have hs : decide (c.s = 0) = false := by simpa using h
    go_enter Try.func20, Try.ntmps20
    go_wp2
    refine bodyPost_ret (v := cv c) (by simp [results, Try.results20, go_sem]) rfl ⟨rfl, ?_⟩
    exact ba (ba (ba (Below.refl _ _) _) _) _
end Go.Proofs.Ytbecambkjmheiaa
