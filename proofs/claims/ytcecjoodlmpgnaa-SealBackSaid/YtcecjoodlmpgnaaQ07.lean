/- Texts of this seat, one behind the other: GXorM, GRBlks, GcmM, WMath, WRule, CPass, CNumber. -/
import Derived.Laws.MakeOwn
import Derived.Outline
import Derived.Test.YtcecjoodlmpgnaaQ01
import Derived.Test.YtcecjoodlmpgnaaQ04
import Derived.Test.YtcecjoodlmpgnaaQ06
/- What products of texts come to; zeros; a row of bytes out of a text. Nothing of any law. -/
namespace Go.Proofs.Ytcecjoodlmpgnaa
open Go.RowKit

theorem mulL_comm (a b : List UInt8) : mulL b a = mulL a b := by unfold mulL; rw [gm_comm (bn_lt b) (bn_lt a)]
theorem mulL_assoc (a b c : List UInt8) : mulL a (mulL b c) = mulL (mulL a b) c := by
  unfold mulL
  rw [bn_nb (gm_lt _ (bn_lt b)), bn_nb (gm_lt _ (bn_lt a)), gm_assoc (bn_lt a) (bn_lt b) (bn_lt c)]
theorem nb_xor {x y : Nat} (hx : x < B128) (hy : y < B128) : nb (x ^^^ y) = xorL (nb x) (nb y) := by
  apply bn_inj (nb_len _) (by rw [xorL_len, nb_len])
  rw [bn_xorL (nb_len _), bn_nb hx, bn_nb hy, bn_nb (gxor_lt hx hy)]
theorem mulL_spread (a b c : List UInt8) (hb : b.length = 16) : mulL a (xorL b c) = xorL (mulL a b) (mulL a c) := by
  unfold mulL
  rw [bn_xorL hb, gm_spread, nb_xor (gm_lt _ (bn_lt a)) (gm_lt _ (bn_lt a))]
theorem bn_zeros : bn gzeros = 0 := by decide +kernel
theorem nb_zero : nb 0 = gzeros := by decide +kernel
theorem mulL_none {a b : List UInt8} (ha : a.length = 16) (hb : b.length = 16) : mulL a b = gzeros ↔ a = gzeros ∨ b = gzeros := by
  have h0 : ∀ {l : List UInt8}, l.length = 16 → bn l = 0 → l = gzeros := fun hl h => bn_inj hl rfl (by rw [h, bn_zeros])
  constructor
  · intro h
    have h1 : gm (bn a) (bn b) = 0 := by
      unfold mulL at h
      rw [← bn_nb (gm_lt (bn b) (bn_lt a)), h, bn_zeros]
    rcases gm_none (bn_lt a) (bn_lt b) h1 with h2 | h2
    · exact .inl (h0 ha h2)
    · exact .inr (h0 hb h2)
  · rintro (rfl | rfl)
    · unfold mulL; rw [bn_zeros, zero_gm, nb_zero]
    · unfold mulL; rw [bn_zeros, gm_zero, nb_zero]
theorem gmake (W : World) : (Instr.makeSlice 59 (.int .i64 16) (.int .i64 16)).run Try.prog W = .ok (.slice (some ⟨W.heap.size, 0, none⟩) 16 16) (W.alloc (.cells (gzeros.map uv).toArray 5)) := by
  obtain ⟨i0, hi, hz0, hz1, hz2⟩ := info_parts (show (Try.prog.info? 5).map (fun i => (i.zero, i.size, i.bytes)) = some (some (.int .u8 0), 1, 1) by kernel_rfl)
  have h := run_makeSlice (P := Try.prog) W 59 5 i0 (.int .u8 0) Try.underlying59 hi hz0 .i64 .i64 16 16 (by omega) (by omega) (by rw [hz1]; omega) (by rw [hz2]; omega) (by omega)
  rw [hz1] at h
  have e : madeCells (Value.int .u8 0).cells (Int.toNat 16 * 1) = (gzeros.map uv).toArray := by kernel_rfl
  rw [e] at h
  exact h

/-- A row of bytes that can be read and written. -/
def ART (w : World) (g : Nat) (L : List UInt8) : Prop := ∀ j, j < L.length → At w g j (uv (ub L j))
theorem frozen_of_block (W : World) (g : Nat) (cs : Array Value) (t : TypeId) (n m : Nat) (h : W.heap[g]? = some (.cells cs t (n, m))) (j : Nat) (hj : j < n) : W.frozen? ⟨g, j, none⟩ = false := by
  simp [World.frozen?, h]
  omega
theorem bytes_conv (l : List UInt8) (w : World) : ∃ (c : Nat) (wa : World), (convert 9 59 (.string ⟨l.toArray⟩)).run Try.prog w = .ok (.slice (some ⟨w.heap.size, 0, none⟩) l.length c) wa ∧ ART wa w.heap.size l ∧ Below w.heap.size w wa := by
  have h := run_bytes_of_string (P := Try.prog) w 9 59 5 ⟨l.toArray⟩ Try.underlying9 Try.underlying59 Try.underlying5
  rw [size_of] at h
  obtain ⟨c, hc⟩ : ∃ c, grownCap w l.length 0 5 = c := ⟨_, rfl⟩
  rw [hc] at h
  refine ⟨c, _, h, fun j hj => ?_, (Below.refl w.heap.size w).drew.trans (((Below.refl w.heap.size w.drew).alloc (Nat.le_refl _) _))⟩
  have hat : (bytesRow ⟨l.toArray⟩ c)[j]? = some (uv (ub l j)) := by
    rw [bytesRow_at ⟨l.toArray⟩ c j (by simpa using hj), ub_at hj]
    rfl
  have hsz : j < (bytesRow ⟨l.toArray⟩ c).size := (Array.getElem?_eq_some_iff.1 hat).1
  have hb := heap_alloc_new w.drew (.cells (bytesRow ⟨l.toArray⟩ c) 5 ((bytesRow ⟨l.toArray⟩ c).size, (bytesRow ⟨l.toArray⟩ c).size + 1))
  exact ⟨(cell_of_row _ _ _ _ _ _ hb).trans hat, frozen_of_block _ _ _ _ _ _ hb j hsz⟩
theorem ART.set_ {w : World} {g n k : Nat} {N M : List UInt8} (hn : N.length = n) (hm : M.length = n) (h : ART w g (cutL k N M)) (hk : k < n) : ART (w.setCell ⟨g, k, none⟩ (uv (ub N k))) g (cutL (k + 1) N M) := fun j hj => by
  rw [cutL_len hn hm (by omega)] at hj
  have hA := h j (by rw [cutL_len hn hm (by omega)]; exact hj)
  refine ⟨?_, by rw [World.frozen?_setCell]; exact hA.2⟩
  rw [ub_cutL hn hm (by omega) hj]
  by_cases e : j = k
  · subst e
    rw [if_pos (by omega)]
    exact World.cell?_setCell_same _ _ _ hA.1
  · have h2 := hA.1
    rw [ub_cutL hn hm (by omega) hj] at h2
    have e2 : (if j < k + 1 then ub N j else ub M j) = (if j < k then ub N j else ub M j) := by
      by_cases h3 : j < k
      · rw [if_pos h3, if_pos (by omega)]
      · rw [if_neg h3, if_neg (by omega)]
    rw [e2, ← h2]
    refine World.cell?_setCell_other _ _ _ _ ?_
    intro e9; cases e9; exact e rfl
theorem ART.later {w w' : World} {g : Nat} {L : List UInt8} (h : ART w g L) (hb : Below w.heap.size w w') : ART w' g L := fun j hj => (h j hj).later hb
theorem ART.text {w : World} {g n c : Nat} {L : List UInt8} (h : ART w g L) (hl : L.length = n) : (convert 59 9 (.slice (some ⟨g, 0, none⟩) n c)).run Try.prog w = .ok (.string ⟨L.toArray⟩) w := by
  subst hl
  refine run_convert_bytes_back (P := Try.prog) w 59 9 5 ⟨g, 0, none⟩ c L Try.underlying59 Try.underlying5 Try.underlying9 (fun j hj => ?_)
  rw [Addr.add_mid, Nat.zero_add, (h j hj).1, ub_at hj]

end Go.Proofs.Ytcecjoodlmpgnaa
/- The contracts of the reference's Blocks and Sum. -/
namespace Go.Proofs.Ytcecjoodlmpgnaa
open Go.RowKit

theorem blocksL_is (h t : List UInt8) (hh : h.length ≤ 80) (ht : t.length ≤ 80) : (blocksL h t).map sv = ((fillT h).map sv ++ (fillT t).map sv) ++ [sv (beL 8 (8 * h.length) ++ beL 8 (8 * t.length))] := by
  rw [be_of (by show _ < 18446744073709551616; omega) (by show _ < 18446744073709551616; omega)]
  simp [blocksL, blocksN, fillT, lenN]

theorem sumN_pre (H : Nat) (l : List Nat) {k : Nat} (h : k < l.length) : sumN H (l.take (k + 1)) = gm (sumN H (l.take k) ^^^ l[k]) H := by
  rw [← List.take_append_getElem h, sumN_more]
theorem sum_step (hb h t : List UInt8) {k : Nat} (hk : k < (blocksN h t).length) (hlt : ∀ x ∈ blocksN h t, x < B128) :
    mulL (xorL (nb (sumN (bn hb) ((blocksN h t).take k))) ((blocksL h t).getD k [])) hb = nb (sumN (bn hb) ((blocksN h t).take (k + 1))) := by
  have hs : sumN (bn hb) ((blocksN h t).take k) < B128 := by
    rcases Nat.eq_zero_or_pos k with rfl | hp
    · rw [List.take_zero]; exact (by decide : (0 : Nat) < B128)
    · obtain ⟨j, rfl⟩ : ∃ j, k = j + 1 := ⟨k - 1, by omega⟩
      have hx := hlt _ (List.getElem_mem (l := blocksN h t) (n := j) (by omega))
      rw [sumN_pre _ _ (by omega)]
      refine gm_lt _ (gxor_lt ?_ hx)
      clear hx
      have key : ∀ m, m ≤ (blocksN h t).length → sumN (bn hb) ((blocksN h t).take m) < B128 := by
        intro m
        induction m with
        | zero => intro _; rw [List.take_zero]; exact (by decide : (0 : Nat) < B128)
        | succ m ih => intro hm; rw [sumN_pre _ _ (by omega)]; exact gm_lt _ (gxor_lt (ih (by omega)) (hlt _ (List.getElem_mem (by omega))))
      exact key j (by omega)
  have hg : (blocksL h t).getD k [] = nb ((blocksN h t)[k]) := by simp [blocksL, List.getD, hk]
  have hx := hlt _ (List.getElem_mem (l := blocksN h t) (n := k) hk)
  rw [hg, sumN_pre _ _ hk]
  unfold mulL
  rw [bn_xorL (nb_len _), bn_nb hs, bn_nb hx]
theorem blocksN_lt (h t : List UInt8) : ∀ x ∈ blocksN h t, x < B128 := by
  intro x hx
  unfold blocksN at hx
  rw [List.mem_append, List.mem_append] at hx
  rcases hx with (hx | hx) | hx
  · obtain ⟨i, _, rfl⟩ := List.mem_map.1 hx; exact bn_lt _
  · obtain ⟨i, _, rfl⟩ := List.mem_map.1 hx; exact bn_lt _
  · rw [List.mem_singleton.1 hx]; exact ofW_lt _ _

end Go.Proofs.Ytcecjoodlmpgnaa
/- GCM over any cipher of blocks, in plain texts: what is sealed is opened; what is turned is not; what is opened is sealed to what it was. Nothing of any function. -/
namespace Go.Proofs.Ytcecjoodlmpgnaa

/-- A number of 32 bits, as 4 bytes, the highest first. -/
def be4 (c : Nat) : List UInt8 := beL 4 (c % 4294967296)
section
variable (E : List UInt8 → List UInt8)
/-- So many whole blocks of a stream. -/
def strB (nonce : List UInt8) (c : Nat) : Nat → List UInt8
  | 0 => []
  | k + 1 => strB nonce c k ++ E (nonce ++ be4 (c + k))
/-- A stream of so many bytes. -/
def strL (nonce : List UInt8) (c many : Nat) : List UInt8 := (strB E nonce c ((many + 15) / 16)).take many
def tagL (nonce head text : List UInt8) : List UInt8 := xorL (sumL (E gzeros) head text) (strL E nonce 1 16)
def ctL (nonce text : List UInt8) : List UInt8 := xorL text (strL E nonce 2 text.length)
def sealL (nonce head text : List UInt8) : List UInt8 := ctL E nonce text ++ tagL E nonce head (ctL E nonce text)
/-- What is opened, if it is: the text. -/
def openL (nonce head sealed : List UInt8) : Option (List UInt8) :=
  if tagL E nonce head (sealed.take (sealed.length - 16)) = sealed.drop (sealed.length - 16) then some (ctL E nonce (sealed.take (sealed.length - 16))) else none
end

theorem xorL_twice (a b : List UInt8) : xorL (xorL a b) b = a := by
  refine list_ext (n := a.length) (by rw [xorL_len, xorL_len]) rfl fun i hi => ?_
  unfold xorL
  rw [ub_tab _ (by rw [tab_len]; exact hi), ub_tab _ hi, UInt8.xor_assoc, UInt8.xor_self, UInt8.xor_zero]
section
variable {E : List UInt8 → List UInt8} {nonce head : List UInt8}
theorem ctL_len (text : List UInt8) : (ctL E nonce text).length = text.length := xorL_len _ _
theorem ctL_twice (text : List UInt8) : ctL E nonce (ctL E nonce text) = text := by
  unfold ctL
  rw [xorL_len, xorL_twice]
theorem tagL_len (text : List UInt8) : (tagL E nonce head text).length = 16 := by unfold tagL; rw [xorL_len, sumL_len]
theorem sealL_len (text : List UInt8) : (sealL E nonce head text).length = text.length + 16 := by unfold sealL; rw [List.length_append, ctL_len, tagL_len]
theorem seal_parts (text : List UInt8) : (sealL E nonce head text).take ((sealL E nonce head text).length - 16) = ctL E nonce text ∧ (sealL E nonce head text).drop ((sealL E nonce head text).length - 16) = tagL E nonce head (ctL E nonce text) := by
  rw [sealL_len, Nat.add_sub_cancel]
  unfold sealL
  have h := ctL_len (E := E) (nonce := nonce) text
  constructor
  · rw [List.take_append_of_le_length (by omega), List.take_of_length_le (by omega)]
  · rw [List.drop_append_of_le_length (by omega), List.drop_of_length_le (by omega), List.nil_append]
/-- What is sealed is opened as it was. -/
theorem open_seal (text : List UInt8) : openL E nonce head (sealL E nonce head text) = some text := by
  unfold openL
  rw [(seal_parts text).1, (seal_parts text).2, if_pos rfl, ctL_twice]
/-- What is opened is sealed to what it was. -/
theorem seal_open {sealed text : List UInt8} (h : openL E nonce head sealed = some text) : sealL E nonce head text = sealed := by
  unfold openL at h
  split at h
  · rename_i ht
    cases h
    unfold sealL
    rw [ctL_twice, ht, List.take_append_drop]
  · cases h
theorem open_len {sealed text : List UInt8} (h : openL E nonce head sealed = some text) : text.length = sealed.length - 16 := by
  unfold openL at h
  split at h
  · cases h
    rw [ctL_len, List.length_take]
    omega
  · cases h
end

/-- Sums that differ at one block alone are not the same, but by the block 0. -/
theorem sum_apart {H : Nat} (hH : H < B128) (h0 : H ≠ 0) (pre : List Nat) {x y : Nat} (hx : x < B128) (hy : y < B128) (hp : ∀ z ∈ pre, z < B128) (post : List Nat) (hq : ∀ z ∈ post, z < B128) (h : sumN H (pre ++ x :: post) = sumN H (pre ++ y :: post)) : x = y := by
  have step : ∀ (post : List Nat) (s t : Nat), (∀ z ∈ post, z < B128) → s < B128 → t < B128 → post.foldl (fun s x => gm (s ^^^ x) H) s = post.foldl (fun s x => gm (s ^^^ x) H) t → s = t := by
    intro post
    induction post with
    | nil => intro s t _ _ _ h; exact h
    | cons z post ih =>
      intro s t hz hs ht h
      have hzz := hz z (List.mem_cons_self)
      have h1 := ih _ _ (fun v hv => hz v (List.mem_cons_of_mem _ hv)) (gm_lt _ (gxor_lt hs hzz)) (gm_lt _ (gxor_lt ht hzz)) h
      have h2 : gm ((s ^^^ z) ^^^ (t ^^^ z)) H = 0 := by
        have := gm_left H (s ^^^ z) (t ^^^ z)
        dsimp only at this
        rw [h1, Nat.xor_self] at this
        exact this
      rcases gm_none (gxor_lt (gxor_lt hs hzz) (gxor_lt ht hzz)) hH h2 with h3 | h3
      · have h4 : (s ^^^ z) ^^^ (t ^^^ z) = s ^^^ t := by rw [xor4, Nat.xor_self, Nat.xor_zero]
        rw [h4] at h3
        have : s ^^^ (s ^^^ t) = s ^^^ 0 := by rw [h3]
        rw [← Nat.xor_assoc, Nat.xor_self, Nat.zero_xor, Nat.xor_zero] at this
        exact this.symm
      · exact absurd h3 h0
  have pr : ∀ (pre : List Nat) (s : Nat), (∀ z ∈ pre, z < B128) → s < B128 → pre.foldl (fun s x => gm (s ^^^ x) H) s < B128 := by
    intro pre
    induction pre with
    | nil => intro s _ hs; exact hs
    | cons z pre ih => intro s hz hs; exact ih _ (fun v hv => hz v (List.mem_cons_of_mem _ hv)) (gm_lt _ (gxor_lt hs (hz z (List.mem_cons_self))))
  unfold sumN at h
  rw [List.foldl_append, List.foldl_append, List.foldl_cons, List.foldl_cons] at h
  have hs := pr pre 0 hp (by decide)
  generalize pre.foldl (fun s x => gm (s ^^^ x) H) 0 = s at h hs
  have h1 := step post _ _ hq (gm_lt _ (gxor_lt hs hx)) (gm_lt _ (gxor_lt hs hy)) h
  have h2 : gm ((s ^^^ x) ^^^ (s ^^^ y)) H = 0 := by
    have := gm_left H (s ^^^ x) (s ^^^ y)
    dsimp only at this
    rw [h1, Nat.xor_self] at this
    exact this
  rcases gm_none (gxor_lt (gxor_lt hs hx) (gxor_lt hs hy)) hH h2 with h3 | h3
  · have h4 : (s ^^^ x) ^^^ (s ^^^ y) = x ^^^ y := by rw [xor4, Nat.xor_self, Nat.zero_xor]
    rw [h4] at h3
    have : x ^^^ (x ^^^ y) = x ^^^ 0 := by rw [h3]
    rw [← Nat.xor_assoc, Nat.xor_self, Nat.zero_xor, Nat.xor_zero] at this
    exact this.symm
  · exact absurd h3 h0

/-- A byte turned by a mask. -/
def turnB (S : List UInt8) (j : Nat) (m : UInt8) : List UInt8 := S.set j (ub S j ^^^ m)
theorem turnB_len (S : List UInt8) (j : Nat) (m : UInt8) : (turnB S j m).length = S.length := by simp [turnB]
theorem ub_turnB {S : List UInt8} {j : Nat} (m : UInt8) (hj : j < S.length) (i : Nat) : ub (turnB S j m) i = if i = j then ub S j ^^^ m else ub S i := by
  unfold turnB ub
  by_cases h : i = j
  · subst h
    simp [List.getD, hj]
  · have h2 : ¬ j = i := fun e => h e.symm
    simp [List.getD, h, h2]
theorem turned_byte {a m : UInt8} (hm : m ≠ 0) : a ^^^ m ≠ a := fun h => hm (by
  have : a ^^^ (a ^^^ m) = a ^^^ a := by rw [h]
  rwa [← UInt8.xor_assoc, UInt8.xor_self, UInt8.zero_xor] at this)
theorem bn_ext {A B : List UInt8} (h : ∀ i, i < 16 → ub A i = ub B i) : bn A = bn B := mkN_ext fun i hi => by unfold co; rw [h (i / 8) (by omega)]
theorem ub_of_bn {A B : List UInt8} (h : bn A = bn B) {i : Nat} (hi : i < 16) : ub A i = ub B i := by rw [← nb_any A hi, ← nb_any B hi, h]
theorem ub_chunk (L : List UInt8) (k : Nat) {i : Nat} (hi : i < 16) : ub ((L.drop (16 * k)).take 16) i = ub L (16 * k + i) := by rw [gub_take, if_pos hi, gub_drop]
theorem fillC_lt (L : List UInt8) : ∀ x ∈ fillC L, x < B128 := by
  intro x hx
  obtain ⟨i, _, rfl⟩ := List.mem_map.1 hx
  exact bn_lt _
theorem fillC_turn {c : List UInt8} {j : Nat} (m : UInt8) (hj : j < c.length) : ∃ A B x y, fillC c = A ++ x :: B ∧ fillC (turnB c j m) = A ++ y :: B ∧ x < B128 ∧ y < B128 ∧ (∀ z ∈ A, z < B128) ∧ (∀ z ∈ B, z < B128) ∧ (x = y → ub c j = ub c j ^^^ m) := by
  have hi : j / 16 < (c.length + 15) / 16 := by omega
  have hi' : j / 16 < (fillC c).length := by rw [fillC_len]; exact hi
  have hl : (fillC (turnB c j m)).length = (fillC c).length := by rw [fillC_len, fillC_len, turnB_len]
  have hi2 : j / 16 < ((turnB c j m).length + 15) / 16 := by rw [turnB_len]; exact hi
  have same : ∀ k, k ≠ j / 16 → (hk : k < (fillC c).length) → (fillC (turnB c j m))[k]'(by omega) = (fillC c)[k] := by
    intro k hne hk
    have hk2 := hk
    rw [fillC_len] at hk2
    rw [fillC_at c hk2, fillC_at (turnB c j m) (by rw [turnB_len]; exact hk2)]
    refine bn_ext fun i hi9 => ?_
    rw [ub_chunk _ _ hi9, ub_chunk _ _ hi9, ub_turnB m hj, if_neg (by omega)]
  refine ⟨(fillC c).take (j / 16), (fillC c).drop (j / 16 + 1), (fillC c)[j / 16], (fillC (turnB c j m))[j / 16]'(by omega), ?_, ?_, fillC_lt _ _ (List.getElem_mem _), fillC_lt _ _ (List.getElem_mem _), fun z hz => fillC_lt _ _ (List.mem_of_mem_take hz), fun z hz => fillC_lt _ _ (List.mem_of_mem_drop hz), fun h => ?_⟩
  · rw [← List.drop_eq_getElem_cons, List.take_append_drop]
  · apply List.ext_getElem
    · simp [hl]; omega
    · intro k h1 h2
      by_cases hlt : k < j / 16
      · rw [List.getElem_append_left (by simp; omega), List.getElem_take]
        exact same k (by omega) (by omega)
      · rw [List.getElem_append_right (by simp; omega)]
        by_cases he : k = j / 16
        · subst he
          simp [Nat.min_eq_left (Nat.le_of_lt hi')]
        · have e1 : k - ((fillC c).take (j / 16)).length = (k - j / 16 - 1) + 1 := by simp; omega
          simp only [e1, List.getElem_cons_succ, List.getElem_drop]
          rw [same k he (by omega)]
          congr 1
          omega
  · rw [fillC_at c hi, fillC_at (turnB c j m) hi2] at h
    have h2 := ub_of_bn h (i := j % 16) (Nat.mod_lt _ (by omega))
    rw [ub_chunk _ _ (Nat.mod_lt _ (by omega)), ub_chunk _ _ (Nat.mod_lt _ (by omega)), show 16 * (j / 16) + j % 16 = j by omega, ub_turnB m hj, if_pos rfl] at h2
    exact h2
theorem sumN_lt (H : Nat) : ∀ (l : List Nat), (∀ z ∈ l, z < B128) → sumN H l < B128 := by
  have pr : ∀ (pre : List Nat) (s : Nat), (∀ z ∈ pre, z < B128) → s < B128 → pre.foldl (fun s x => gm (s ^^^ x) H) s < B128 := by
    intro pre
    induction pre with
    | nil => intro s _ hs; exact hs
    | cons z pre ih => intro s hz hs; exact ih _ (fun v hv => hz v (List.mem_cons_of_mem _ hv)) (gm_lt _ (gxor_lt hs (hz z (List.mem_cons_self))))
  exact fun l hl => pr l 0 hl (by decide)
/-- Sums of a text and of it with one byte turned are not the same. -/
theorem sumL_turn {hb head c : List UInt8} (h16 : hb.length = 16) (h0 : hb ≠ gzeros) {j : Nat} {m : UInt8} (hm : m ≠ 0) (hj : j < c.length) : sumL hb head (turnB c j m) ≠ sumL hb head c := by
  intro h
  unfold sumL at h
  have h1 := nb_inj (sumN_lt _ _ (blocksN_lt _ _)) (sumN_lt _ _ (blocksN_lt _ _)) h
  obtain ⟨A, B, x, y, e1, e2, hx, hy, hA, hB, hxy⟩ := fillC_turn m hj
  have hne : bn hb ≠ 0 := fun e => h0 (bn_inj h16 rfl (by rw [e, bn_zeros]))
  have hlen : lenN head (turnB c j m) = lenN head c := by unfold lenN; rw [turnB_len]
  have f1 : blocksN head c = (fillC head ++ A) ++ x :: (B ++ [lenN head c]) := by unfold blocksN; rw [e1]; simp
  have f2 : blocksN head (turnB c j m) = (fillC head ++ A) ++ y :: (B ++ [lenN head c]) := by unfold blocksN; rw [e2, hlen]; simp
  rw [f1, f2] at h1
  have hp : ∀ z ∈ fillC head ++ A, z < B128 := fun z hz => by
    rcases List.mem_append.1 hz with hz | hz
    · exact fillC_lt _ _ hz
    · exact hA z hz
  have hq : ∀ z ∈ B ++ [lenN head c], z < B128 := fun z hz => by
    rcases List.mem_append.1 hz with hz | hz
    · exact hB z hz
    · rw [List.mem_singleton.1 hz]; exact ofW_lt _ _
  have := sum_apart (bn_lt hb) hne _ hy hx hp _ hq h1
  exact turned_byte hm (hxy this.symm).symm
theorem xorL_inj {a b s : List UInt8} (h : xorL a s = xorL b s) : a = b := by rw [← xorL_twice a s, h, xorL_twice]
/-- With one byte turned it is not opened, but by a key that makes 16 bytes 0 of these. -/
theorem open_turned {E : List UInt8 → List UInt8} {nonce head : List UInt8} (h16 : (E gzeros).length = 16) (h0 : E gzeros ≠ gzeros) (text : List UInt8) {j : Nat} {m : UInt8} (hm : m ≠ 0) (hj : j < text.length + 16) : openL E nonce head (turnB (sealL E nonce head text) j m) = none := by
  have hl := sealL_len (E := E) (nonce := nonce) (head := head) text
  have hcl := ctL_len (E := E) (nonce := nonce) text
  have htl := tagL_len (E := E) (nonce := nonce) (head := head) (ctL E nonce text)
  unfold openL
  rw [turnB_len, hl, Nat.add_sub_cancel, if_neg]
  intro h
  have hjS : j < (sealL E nonce head text).length := by omega
  have hub := ub_turnB m hjS
  by_cases hlt : j < text.length
  · have e1 : (turnB (sealL E nonce head text) j m).take text.length = turnB (ctL E nonce text) j m := by
      refine list_ext (n := text.length) (by rw [List.length_take, turnB_len, hl]; omega) (by rw [turnB_len, hcl]) fun i hi => ?_
      rw [gub_take, if_pos hi, hub, ub_turnB m (by omega)]
      have hs : ∀ i, i < text.length → ub (sealL E nonce head text) i = ub (ctL E nonce text) i := fun i hi => by
        unfold sealL ub
        simp [List.getD, List.getElem?_append_left (show i < (ctL E nonce text).length by omega)]
      rw [hs j hlt, hs i hi]
    have e2 : (turnB (sealL E nonce head text) j m).drop text.length = tagL E nonce head (ctL E nonce text) := by
      refine list_ext (n := 16) (by rw [List.length_drop, turnB_len, hl]; omega) htl fun i hi => ?_
      rw [gub_drop, hub, if_neg (by omega)]
      unfold sealL ub
      simp [List.getD, List.getElem?_append_right (show (ctL E nonce text).length ≤ text.length + i by omega), hcl]
    rw [e1, e2] at h
    unfold tagL at h
    exact sumL_turn h16 h0 hm (by omega) (xorL_inj h)
  · have e1 : (turnB (sealL E nonce head text) j m).take text.length = ctL E nonce text := by
      refine list_ext (n := text.length) (by rw [List.length_take, turnB_len, hl]; omega) hcl fun i hi => ?_
      rw [gub_take, if_pos hi, hub, if_neg (by omega)]
      unfold sealL ub
      simp [List.getD, List.getElem?_append_left (show i < (ctL E nonce text).length by omega)]
    rw [e1] at h
    have h2 := congrArg (fun L => ub L (j - text.length)) h
    have h3 : ub (tagL E nonce head (ctL E nonce text)) (j - text.length) = ub (sealL E nonce head text) j := by
      unfold sealL ub
      simp [List.getD, List.getElem?_append_right (show (ctL E nonce text).length ≤ j by omega), hcl]
    simp only [gub_drop] at h2
    rw [show text.length + (j - text.length) = j by omega, hub, if_pos rfl, h3] at h2
    exact turned_byte hm h2.symm
end Go.Proofs.Ytcecjoodlmpgnaa
/- Sectors' texts, in plain lists: nothing of the program. -/
namespace Go.Proofs.Ytcecjoodlmpgnaa

theorem low_take (n k m : Nat) (h : k ≤ m) : (low n m).take k = low n k := by
  induction m generalizing n k with
  | zero => obtain rfl : k = 0 := by omega
            rfl
  | succ m ih =>
    cases k with
    | zero => rfl
    | succ k => simp only [low, List.take_succ_cons]; rw [ih _ _ (by omega)]
/-- A sector's and a generation's nonce. -/
def wnonce (a g : Nat) : List UInt8 := low a 4 ++ low g 8
/-- What is bound. -/
def whead (kind logical size : Nat) : List UInt8 := low kind 8 ++ low logical 8 ++ low size 8
/-- A sector's text. -/
def wseal (E : List UInt8 → List UInt8) (kind a g logical : Nat) (data : List UInt8) : List UInt8 := low g 8 ++ sealL E (wnonce a g) (whead kind logical data.length) data
/-- The generation and the data that a text tells. -/
def wopen (E : List UInt8 → List UInt8) (kind a logical : Nat) (s : List UInt8) : Option (Nat × List UInt8) :=
  if 24 ≤ s.length ∧ s.length ≤ 88 then (openL E (wnonce a (val (s.take 8))) (whead kind logical (s.length - 24)) (s.drop 8)).map fun t => (val (s.take 8), t) else none
theorem wnonce_len (a g : Nat) : (wnonce a g).length = 12 := by simp [wnonce, low_length]
theorem whead_len (k l n : Nat) : (whead k l n).length = 24 := by simp [whead, low_length]
section
variable {E : List UInt8 → List UInt8} {kind a logical : Nat}
theorem wseal_len (g : Nat) (data : List UInt8) : (wseal E kind a g logical data).length = data.length + 24 := by
  unfold wseal
  rw [List.length_append, low_length, sealL_len]
  omega
theorem wnonce_inj {a b g h : Nat} (ha : a < 4294967296) (hb : b < 4294967296) (hg : g < 18446744073709551616) (hh : h < 18446744073709551616) : wnonce a g = wnonce b h ↔ a = b ∧ g = h := by
  constructor
  · intro e
    obtain ⟨e1, e2⟩ := List.append_inj e (by rw [low_length, low_length])
    exact ⟨low_inj (k := 4) (by omega) (by omega) e1, low_inj (k := 8) (by omega) (by omega) e2⟩
  · rintro ⟨rfl, rfl⟩; rfl
theorem wopen_seal {g : Nat} (hg : g < 18446744073709551616) {data : List UInt8} (hd : data.length ≤ 64) : wopen E kind a logical (wseal E kind a g logical data) = some (g, data) := by
  have hl := wseal_len (E := E) (kind := kind) (a := a) (logical := logical) g data
  have h8 : (wseal E kind a g logical data).take 8 = low g 8 := by unfold wseal; rw [List.take_left' (low_length _ _)]
  have hd8 : (wseal E kind a g logical data).drop 8 = sealL E (wnonce a g) (whead kind logical data.length) data := by unfold wseal; rw [List.drop_left' (low_length _ _)]
  unfold wopen
  rw [if_pos ⟨by omega, by omega⟩, h8, hd8, hl, val_low, Nat.mod_eq_of_lt (by omega), Nat.add_sub_cancel, open_seal]
  rfl
theorem wseal_open {s t : List UInt8} {g : Nat} (h : wopen E kind a logical s = some (g, t)) : wseal E kind a g logical t = s ∧ g < 18446744073709551616 ∧ t.length ≤ 64 ∧ 24 ≤ s.length ∧ s.length ≤ 88 := by
  unfold wopen at h
  by_cases hs : 24 ≤ s.length ∧ s.length ≤ 88
  · rw [if_pos hs, Option.map_eq_some_iff] at h
    obtain ⟨u, hu, e⟩ := h
    have l8 : (s.take 8).length = 8 := by rw [List.length_take]; omega
    obtain ⟨rfl, rfl⟩ := Prod.mk.inj e
    have hl := open_len hu
    have hso := seal_open hu
    rw [List.length_drop] at hl
    have hlow := low_val (s.take 8)
    rw [l8] at hlow
    have hlt := val_lt (s.take 8)
    rw [l8] at hlt
    refine ⟨?_, by omega, by omega, hs.1, hs.2⟩
    unfold wseal
    rw [hlow, show u.length = s.length - 24 by omega, hso, List.take_append_drop]
  · rw [if_neg hs] at h; cases h
end
/-- The first rule that is not kept: its why; 0 if all are. -/
def refuse : List (Bool × Int) → Int
  | [] => 0
  | x :: l => if x.1 then refuse l else x.2
/-- May a sector's number be? -/
def atB (n : Int) : Bool := decide (0 ≤ n) && decide (n < 64)
/-- May a kind be? -/
def kindB (n : Int) : Bool := decide (0 ≤ n) && decide (n ≤ 2)
end Go.Proofs.Ytcecjoodlmpgnaa
/- The contracts of isSector, isKind, isKey and refusal. -/
namespace Go.Proofs.Ytcecjoodlmpgnaa
open Go.RowKit

set_option maxRecDepth 100000 in
set_option maxHeartbeats 1000000 in
theorem isSector_any (n : Int) (w : World) : Calls Try.prog 10 #[.int .i64 n] w fun e w' => e = .returned (.bool (atB n)) ∧ w = w' := by
  unfold atB
  by_cases h0 : 0 ≤ n
  · rw [decide_eq_true h0, Bool.true_and]
    go_enter Try.func10, Try.ntmps10
    go_wp2
    go_ret
    exact ⟨rfl, rfl⟩
  · rw [decide_eq_false h0, Bool.false_and]
    go_enter Try.func10, Try.ntmps10
    go_wp2
    go_ret
    exact ⟨rfl, rfl⟩

set_option maxRecDepth 100000 in
set_option maxHeartbeats 1000000 in
theorem isKind_any (n : Int) (w : World) : Calls Try.prog 12 #[.int .i64 n] w fun e w' => e = .returned (.bool (kindB n)) ∧ w = w' := by
  by_cases h0 : n = 0
  · subst h0
    go_enter Try.func12, Try.ntmps12
    go_wp2
    go_ret
    exact ⟨rfl, rfl⟩
  · have e0 : (n == 0) = false := by simp; omega
    by_cases h1 : n = 1
    · subst h1
      go_enter Try.func12, Try.ntmps12
      go_wp2
      go_ret
      exact ⟨rfl, rfl⟩
    · have e1 : (n == 1) = false := by simp; omega
      have e2 : (n == 2) = kindB n := by rw [Bool.eq_iff_iff]; simp [kindB]; omega
      generalize kindB n = B at e2 ⊢
      clear h0 h1
      go_enter Try.func12, Try.ntmps12
      go_wp2
      go_ret
      exact ⟨rfl, rfl⟩

set_option maxRecDepth 100000 in
set_option maxHeartbeats 1000000 in
theorem wisKey_any (k : List UInt8) (w : World) (hk : (k.length : Int) ≤ 9223372036854775807) :
    Calls Try.prog 13 #[.string ⟨k.toArray⟩] w fun e w' => e = .returned (.bool (keyB k)) ∧ w = w' := by
  have hz := size_mk k
  unfold keyB
  obtain ⟨n, hn⟩ : ∃ n, k.length = n := ⟨_, rfl⟩
  rw [hn] at hz hk ⊢
  by_cases h1 : n = 16
  · subst h1
    go_enter Try.func13, Try.ntmps13
    go_wp2
    go_ret
    exact ⟨rfl, rfl⟩
  · have e1 : ((n : Int) == 16) = false := by simp; omega
    have e2 : ((n : Int) == 32) = (n == 32) := by rw [Bool.eq_iff_iff]; simp; omega
    have e3 : (n == 16) = false := by simp; omega
    rw [e3, Bool.false_or]
    clear h1
    go_enter Try.func13, Try.ntmps13
    go_wp2
    go_ret
    exact ⟨by simp, rfl⟩

/-- Rules in cells. -/
def rcells (L : List (Bool × Int)) : List Value := L.flatMap fun x => [.bool x.1, .int .i64 x.2]
theorem rcells_at (L : List (Bool × Int)) (j : Nat) (h : j < L.length) : (rcells L)[j * 2]? = some (.bool L[j].1) ∧ (rcells L)[j * 2 + 1]? = some (.int .i64 L[j].2) := by
  induction L generalizing j with
  | nil => exact absurd h (Nat.not_lt_zero j)
  | cons x L ih =>
    have e : rcells (x :: L) = [.bool x.1, .int .i64 x.2] ++ rcells L := by simp [rcells]
    cases j with
    | zero => rw [e]; simp
    | succ j =>
      have h' : j < L.length := by simpa using h
      obtain ⟨h0, h1⟩ := ih j h'
      rw [e]
      refine ⟨?_, ?_⟩
      · rw [List.getElem?_append_right (by simp; omega), show (j + 1) * 2 - _ = j * 2 by simp; omega]; exact h0
      · rw [List.getElem?_append_right (by simp; omega), show (j + 1) * 2 + 1 - _ = j * 2 + 1 by simp; omega]; exact h1
theorem refuse_step {L : List (Bool × Int)} {k : Nat} {R : Int} (hk : k < L.length) (h : refuse (L.drop k) = R) : if L[k].1 then refuse (L.drop (k + 1)) = R else L[k].2 = R := by
  rw [List.drop_eq_getElem_cons hk, refuse] at h
  split <;> simp_all

set_option maxRecDepth 100000 in
set_option maxHeartbeats 1000000 in
theorem refusal_any (L : List (Bool × Int)) (g : Nat) (w : World) (R : Int) (hR : refuse L = R) (h : Blk w g 35 (rcells L).toArray) (hL : L.length ≤ 64) :
    Calls Try.prog 9 #[.slice (some ⟨g, 0, none⟩) L.length L.length] w fun e w' => e = .returned (.int .i64 R) ∧ Below w.heap.size w w' := by
  have HB := Lib.hid h
  have HR := Lib.hid hR
  clear h hR
  go_enter Try.func9, Try.ntmps9
  go_wp2_with fail
  go_loopw [7] (fun iv wr => ∃ k : Nat, k ≤ L.length ∧ iv = .int .i64 k ∧ Hid (refuse (L.drop k) = R) ∧ Below w.heap.size w wr) (fun i _ => L.length - (intOf i).toNat)
  case atStart => exact ⟨0, Nat.zero_le _, rfl, HR, Below.refl _ _⟩
  case round =>
    obtain ⟨k, hk, rfl, HS, hb⟩ := hrel
    by_cases hlt : k < L.length
    · have hst := refuse_step hlt HS.out
      obtain ⟨x0, x1⟩ := rcells_at L k hlt
      have hB := HB.out.below hb
      have c0 := hB.cell (k * 2)
      have c1 := hB.cell (k * 2 + 1)
      rw [List.getElem?_toArray, x0] at c0
      rw [List.getElem?_toArray, x1] at c1
      obtain ⟨⟨b, c⟩, hxx⟩ : ∃ x, L[k] = x := ⟨_, rfl⟩
      rw [hxx] at c0 c1 hst
      clear hxx x0 x1 hB
      cases b
      · simp only [Bool.false_eq_true, if_false] at hst c0 c1
        subst hst
        go_wp2
        go_ret
        exact ⟨rfl, ba hb _⟩
      · simp only [if_true] at hst c0 c1
        have HS1 := Lib.hid hst
        clear hst
        go_wp2
        exact ⟨⟨k + 1, by omega, by go_num, HS1, ba hb _⟩, by simp [intOf]; omega⟩
    · obtain rfl : k = L.length := by omega
      have hst := HS.out
      rw [List.drop_length, refuse] at hst
      subst hst
      go_wp2
      go_ret
      exact ⟨rfl, hb⟩
theorem refusal_one (b : Bool) (c : Int) (g : Nat) (w : World) (h : Blk w g 35 #[.bool b, .int .i64 c]) :
    Calls Try.prog 9 #[.slice (some ⟨g, 0, none⟩) 1 1] w fun e w' => e = .returned (.int .i64 (refuse [(b, c)])) ∧ Below w.heap.size w w' :=
  refusal_any [(b, c)] g w _ rfl h (by simp)
theorem refusal_four (b0 b1 b2 b3 : Bool) (c0 c1 c2 c3 : Int) (g : Nat) (w : World) (h : Blk w g 35 #[.bool b0, .int .i64 c0, .bool b1, .int .i64 c1, .bool b2, .int .i64 c2, .bool b3, .int .i64 c3]) :
    Calls Try.prog 9 #[.slice (some ⟨g, 0, none⟩) 4 4] w fun e w' => e = .returned (.int .i64 (refuse [(b0, c0), (b1, c1), (b2, c2), (b3, c3)])) ∧ Below w.heap.size w w' :=
  refusal_any [(b0, c0), (b1, c1), (b2, c2), (b3, c3)] g w _ rfl h (by simp)
end Go.Proofs.Ytcecjoodlmpgnaa
/- Contracts of pass, and of the writer's low. -/
namespace Go.Proofs.Ytcecjoodlmpgnaa
open Go.RowKit

set_option maxHeartbeats 400000 in
theorem pass_any (p : Nat) (n m : Int) (w : World) (h : At w p 0 (.int .i64 n)) (n0 : 0 ≤ n) (m0 : 0 ≤ m) (hs : n + m ≤ 9223372036854775807) :
    Calls Try.prog 56 #[.pointer (some ⟨p, 0, none⟩), .int .i64 m] w fun e w' => e = .returned (.int .i64 n) ∧ w' = w.setCell ⟨p, 0, none⟩ (.int .i64 (n + m)) := by
  obtain ⟨hc, hf⟩ := h
  go_enter Try.func56, Try.ntmps56
  go_wp2
  go_ret
  exact ⟨rfl, rfl⟩

/-- A byte's cell. -/
abbrev cbv (b : UInt8) : Value := .int .u8 (b.toNat : Int)
/-- The cells of so many bytes, of which those ahead are D, and the others 0. -/
def row (D : List UInt8) (N : Nat) : Array Value := ((D ++ List.replicate (N - D.length) 0).map cbv).toArray
/-- A writer, and what it has written. -/
def Wr (W : World) (p g : Nat) (D : List UInt8) (N : Nat) : Prop :=
  Blk W p 68 #[.int .i64 (D.length : Int), .slice (some ⟨g, 0, none⟩) N N] ∧ Blk W g 5 (row D N) ∧ D.length ≤ N
theorem Blk.ne_ {w : World} {g g' : Nat} {t t' : TypeId} {cs cs' : Array Value} (h : Blk w g t cs) (h' : Blk w g' t' cs') (hne : t ≠ t') : g ≠ g' := by
  rintro rfl
  unfold Blk at h h'
  rw [h] at h'
  injection h' with h'
  injection h' with _ ht
  exact hne ht
theorem Wr.ne {W : World} {p g : Nat} {D : List UInt8} {N : Nat} (h : Wr W p g D N) : p ≠ g := h.1.ne_ h.2.1 (by decide)
theorem row_size (D : List UInt8) (N : Nat) (h : D.length ≤ N) : (row D N).size = N := by
  simp [row]; omega
theorem row_set (D : List UInt8) (N : Nat) (b : UInt8) (h : D.length < N) : (row D N).setIfInBounds D.length (cbv b) = row (D ++ [b]) N := by
  unfold row
  obtain ⟨r, hr⟩ : ∃ r, N - D.length = r + 1 := ⟨N - D.length - 1, by omega⟩
  have hr' : N - (D ++ [b]).length = r := by simp; omega
  rw [hr, hr']
  simp [List.replicate_succ]
theorem crow_at (D : List UInt8) (N : Nat) (h : D.length < N) : (row D N)[D.length]? = some (.int .u8 0) := by
  unfold row
  obtain ⟨r, hr⟩ : ∃ r, N - D.length = r + 1 := ⟨N - D.length - 1, by omega⟩
  rw [hr]
  simp [List.replicate_succ]

theorem u8_wrap (q : Nat) : IntKind.u8.wrap (q : Int) = ((UInt8.ofNat (q % 256)).toNat : Int) := by
  rw [IntKind.wrap_u8, ofNat_toNat_mod]; omega

set_option maxRecDepth 100000 in
set_option maxHeartbeats 1000000 in
theorem wlow_any (p g n m N : Nat) (D : List UInt8) (w : World) (h : Wr w p g D N) (hn : (n : Int) ≤ 18446744073709551615) (hm : D.length + m ≤ N) (hN : (N : Int) ≤ 9223372036854775807) :
    Calls Try.prog 32 #[.pointer (some ⟨p, 0, none⟩), .int .u64 (n : Int), .int .i64 (m : Int)] w fun e w' => e = .returned (.tuple #[]) ∧ Wr w' p g (D ++ low n m) N ∧ Off p g w w' := by
  go_enter Try.func32, Try.ntmps32
  go_wp2
  go_loopw [1, 7] (fun nv iv wr => ∃ k q : Nat, k ≤ m ∧ iv = .int .i64 k ∧ nv = .int .u64 (q : Int) ∧ (q : Int) ≤ 18446744073709551615 ∧ Hid (q = n / 256 ^ k) ∧ Wr wr p g (D ++ low n k) N ∧ Off p g w wr) (fun _ i _ => m - (intOf i).toNat)
  case atStart => exact ⟨0, n, Nat.zero_le _, rfl, rfl, hn, Lib.hid (by simp), by simpa [low] using h, Off.refl _ _ _⟩
  case round =>
    obtain ⟨k, q, hk, rfl, rfl, hq1, HQ, hw, ho⟩ := hrel
    by_cases hlt : k < m
    · obtain ⟨hp, hg, hl⟩ := hw
      have hne : p ≠ g := hp.ne_ hg (by decide)
      have hL : (D ++ low n k).length = D.length + k := by rw [List.length_append, low_length]
      have P0 := hp.at_ (i := 0) rfl
      have P1 := (hp.at_ (i := 1) rfl).1
      have G0 := hg.at_ (crow_at (D ++ low n k) N (by omega))
      rw [hL] at P0 G0
      obtain ⟨d, hd⟩ : ∃ d, D.length + k = d := ⟨_, rfl⟩
      rw [hd] at P0 G0
      have G1 := G0.1
      have G2 := G0.2
      have i0 : (0 : Int) ≤ (d : Int) := by omega
      have i1 : (d : Int) < (N : Int) := by omega
      have hWr : Wr ((wr.setCell ⟨p, 0, none⟩ (.int .i64 ((d : Int) + 1))).setCell ⟨g, d, none⟩ (.int .u8 ((UInt8.ofNat (q % 256)).toNat : Int))) p g (D ++ low n (k + 1)) N := by
        refine ⟨?_, ?_, ?_⟩
        · have := (hp.set_ 0 (.int .i64 ((d : Int) + 1))).far (p := ⟨g, d, none⟩) hne (.int .u8 ((UInt8.ofNat (q % 256)).toNat : Int))
          rw [low_snoc, ← List.append_assoc, List.length_append, hL, hd]
          simpa using this
        · have := (hg.far (p := ⟨p, 0, none⟩) (Ne.symm hne) (.int .i64 ((d : Int) + 1))).set_ d (cbv (UInt8.ofNat (q % 256)))
          rw [← hd, ← hL, row_set _ _ _ (by omega)] at this
          rw [low_snoc, ← List.append_assoc, ← HQ.out, ← hd, ← hL]
          exact this
        · simp [low_length]; omega
      have P3 : ((wr.setCell ⟨p, 0, none⟩ (.int .i64 ((d : Int) + 1))).setCell ⟨g, d, none⟩ (.int .u8 ((UInt8.ofNat (q % 256)).toNat : Int))).cell? ⟨p, 1, none⟩ = some (.slice (some ⟨g, 0, none⟩) N N) := (World.cell?_setCell_other _ _ _ _ (by simp)).trans ((World.cell?_setCell_other _ _ _ _ (by simp)).trans P1)
      have HWr := Lib.hid hWr
      have hOff : Off p g w ((wr.setCell ⟨p, 0, none⟩ (.int .i64 ((d : Int) + 1))).setCell ⟨g, d, none⟩ (.int .u8 ((UInt8.ofNat (q % 256)).toNat : Int))) := (ho.setCell (.inl rfl) _).setCell (.inr rfl) _
      have P2 : (wr.setCell ⟨p, 0, none⟩ (.int .i64 ((d : Int) + 1))).cell? ⟨p, 1, none⟩ = some (.slice (some ⟨g, 0, none⟩) N N) := (World.cell?_setCell_other _ _ _ _ (by simp)).trans P1
      clear hWr hL hg hp G0
      have hB := u8_wrap q
      obtain ⟨b, hb⟩ : ∃ b, UInt8.ofNat (q % 256) = b := ⟨_, rfl⟩
      rw [hb] at hB HWr hOff P3
      have HD := Lib.hid hd
      clear hb hd
      go_wp2_with fail
      go_region_held3 (fun W => W.cell? ⟨p, 1, none⟩ = some (.slice (some ⟨g, 0, none⟩) N N)) (first | exact P1 | exact P2 | exact P3 | assumption | go_keep) (first | (go_at_call 56; refine (pass_any p d 1 _ P0.drew (by omega) (by omega) (by omega)).mono ?_; rintro e w' ⟨rfl, rfl⟩))
      go_wp2
      exact ⟨⟨k + 1, q / 256, by omega, by go_num, by go_num, by omega, Lib.hid (by rw [HQ.out, Nat.div_div_eq_div_mul, Nat.pow_succ]), HWr.out, hOff.drew⟩, by simp [intOf]; omega⟩
    · obtain rfl : k = m := by omega
      go_wp2
      go_end0
      exact ⟨rfl, hw, ho⟩
end Go.Proofs.Ytcecjoodlmpgnaa
/- Contracts of newWriter, number, told, Number, the reference's Low, and alive. -/
namespace Go.Proofs.Ytcecjoodlmpgnaa
open Go.RowKit

theorem infoU8 : (Try.prog.info? 5).map (fun i => (i.zero, i.size, i.bytes)) = some (some (.int .u8 0), 1, 1) := by kernel_rfl
theorem made_row (n : Nat) : madeCells (Value.int .u8 0).cells n = row [] n := by
  unfold madeCells row
  apply Array.ext
  · simp
  · intro i h1 h2
    have hm : i % 1 = 0 := Nat.mod_one i
    simp [Value.cells, hm]

set_option maxRecDepth 100000 in
set_option maxHeartbeats 1000000 in
theorem newWriter_any (n : Nat) (w : World) (hn : n ≤ 1099511627776) :
    Calls Try.prog 24 #[.int .i64 (n : Int)] w fun e w' => ∃ p g, e = .returned (.pointer (some ⟨p, 0, none⟩)) ∧ w.heap.size ≤ p ∧ w.heap.size ≤ g ∧ Wr w' p g [] n ∧ Below w.heap.size w w' := by
  obtain ⟨i1, hi, hz0, hz1, hz2⟩ := info_parts infoU8
  have hmk : ∀ W : World, (Instr.makeSlice 59 (.int .i64 (n : Int)) (.int .i64 (n : Int))).run Try.prog W = .ok (.slice (some ⟨W.heap.size, 0, none⟩) n n) (W.alloc (.cells (row [] n) 5)) := fun W => by
    have hb : (i1.bytes : Int) * (n : Int) ≤ 281474976710656 := by rw [hz2]; omega
    have hr := run_make (P := Try.prog) W 59 5 i1 _ Try.underlying59 hi hz0 .i64 .i64 n n (by omega) (by omega) hb (by omega)
    rw [hz1, Int.toNat_natCast, Nat.mul_one, made_row] at hr
    exact hr
  go_enter Try.func24, Try.ntmps24
  go_wp2
  go_ret
  exact ⟨_, _, rfl, by omega, Nat.le_refl _, ⟨Blk.newAt (by simp) _ _, (Blk.new w _ _).alloc _, Nat.zero_le _⟩, ba (ba (Below.refl _ _) _) _⟩

set_option maxRecDepth 100000 in
set_option maxHeartbeats 1000000 in
theorem wnumber_any (p g n N : Nat) (D : List UInt8) (w : World) (h : Wr w p g D N) (hn : (n : Int) ≤ 18446744073709551615) (hm : D.length + 8 ≤ N) (hN : (N : Int) ≤ 9223372036854775807) :
    Calls Try.prog 25 #[.pointer (some ⟨p, 0, none⟩), .int .u64 (n : Int)] w fun e w' => e = .returned (.tuple #[]) ∧ Wr w' p g (D ++ low n 8) N ∧ Off p g w w' := by
  go_enter Try.func25, Try.ntmps25
  go_wp2_with fail
  refine (wlow_any p g n 8 N D _ h hn hm hN).mono ?_
  rintro e w1 ⟨rfl, hw, ho⟩
  go_wp2
  go_end0
  exact ⟨rfl, hw, ho⟩

theorem row_full (D : List UInt8) : row D D.length = (D.map cbv).toArray := by simp [row]

set_option maxRecDepth 100000 in
set_option maxHeartbeats 1000000 in
theorem wtold_any (p g N : Nat) (D : List UInt8) (w : World) (h : Wr w p g D N) (hN : D.length = N) :
    Calls Try.prog 26 #[.pointer (some ⟨p, 0, none⟩)] w fun e w' => e = .returned (.string ⟨D.toArray⟩) ∧ w = w' := by
  subst hN
  obtain ⟨hp, hg, _⟩ := h
  have hc := (hp.at_ (i := 1) rfl).1
  have hcv := run_convert_bytes_back (P := Try.prog) w 59 9 5 ⟨g, 0, none⟩ D.length D Try.underlying59 Try.underlying5 Try.underlying9 (fun j hj => by
    have e : (⟨g, 0, none⟩ : Addr).add j = ⟨g, j, none⟩ := by cases j <;> simp [Addr.add]
    rw [e, hg.cell j, row_full]
    simp [hj])
  clear hp hg
  go_enter Try.func26, Try.ntmps26
  go_wp2
  go_ret
  exact ⟨rfl, rfl⟩

set_option maxRecDepth 100000 in
set_option maxHeartbeats 1000000 in
theorem number_any (n : Nat) (w : World) (hn : (n : Int) ≤ 18446744073709551615) :
    Calls Try.prog 16 #[.int .u64 (n : Int)] w fun e w' => e = .returned (.string ⟨(low n 8).toArray⟩) ∧ Below w.heap.size w w' := by
  go_enter Try.func16, Try.ntmps16
  go_wp2_with fail
  refine (newWriter_any 8 _ (by omega)).mono ?_
  rintro e w1 ⟨p, g, rfl, hp, hg, hw, hb⟩
  go_wp2_with fail
  refine (wnumber_any p g n 8 [] _ hw hn (by simp) (by omega)).mono ?_
  rintro e w2 ⟨rfl, hw2, ho⟩
  go_wp2_with fail
  refine (wtold_any p g 8 _ _ hw2 (by simp [low_length])).mono ?_
  rintro e w3 ⟨rfl, rfl⟩
  go_wp2
  go_ret
  exact ⟨rfl, hb.trans (ho.below hp hg hb.size)⟩

end Go.Proofs.Ytcecjoodlmpgnaa
