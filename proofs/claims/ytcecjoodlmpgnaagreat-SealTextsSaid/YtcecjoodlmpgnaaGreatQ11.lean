/- Texts of this seat, one behind the other: GcmM. -/
import Derived.Test.YtcecjoodlmpgnaaGreatQ10
/- GCM over any cipher of blocks, in plain texts: what is sealed is opened; what is turned is not; what is opened is sealed to what it was. Nothing of any function. -/
namespace Go.Proofs.YtcecjoodlmpgnaaGreat

/-- A number of 32 bits, as 4 bytes, the highest first. -/
def be4 (c : Nat) : List UInt8 := beL 4 (c % 4294967296)
section
variable (E : List UInt8 → List UInt8)
/-- So many whole blocks of a stream. -/
def strB (nonce : List UInt8) (c : Nat) : Nat → List UInt8
  | 0 => []
  | k + 1 => strB nonce c k ++ E (nonce ++ be4 (c + k))
/-- A stream of so many bytes. -/
def strL (nonce : List UInt8) (c many : Nat) : List UInt8 := (strB E nonce c ((many + 15) / 16)).take many
def tagL (nonce head text : List UInt8) : List UInt8 := xorL (sumL (E gzeros) head text) (strL E nonce 1 16)
def ctL (nonce text : List UInt8) : List UInt8 := xorL text (strL E nonce 2 text.length)
def sealL (nonce head text : List UInt8) : List UInt8 := ctL E nonce text ++ tagL E nonce head (ctL E nonce text)
/-- What is opened, if it is: the text. -/
def openL (nonce head sealed : List UInt8) : Option (List UInt8) :=
  if tagL E nonce head (sealed.take (sealed.length - 16)) = sealed.drop (sealed.length - 16) then some (ctL E nonce (sealed.take (sealed.length - 16))) else none
end

theorem xorL_twice (a b : List UInt8) : xorL (xorL a b) b = a := by
  refine list_ext (n := a.length) (by rw [xorL_len, xorL_len]) rfl fun i hi => ?_
  unfold xorL
  rw [ub_tab _ (by rw [tab_len]; exact hi), ub_tab _ hi, UInt8.xor_assoc, UInt8.xor_self, UInt8.xor_zero]
section
variable {E : List UInt8 → List UInt8} {nonce head : List UInt8}
theorem ctL_len (text : List UInt8) : (ctL E nonce text).length = text.length := xorL_len _ _
theorem ctL_twice (text : List UInt8) : ctL E nonce (ctL E nonce text) = text := by
  unfold ctL
  rw [xorL_len, xorL_twice]
theorem tagL_len (text : List UInt8) : (tagL E nonce head text).length = 16 := by unfold tagL; rw [xorL_len, sumL_len]
theorem sealL_len (text : List UInt8) : (sealL E nonce head text).length = text.length + 16 := by unfold sealL; rw [List.length_append, ctL_len, tagL_len]
theorem seal_parts (text : List UInt8) : (sealL E nonce head text).take ((sealL E nonce head text).length - 16) = ctL E nonce text ∧ (sealL E nonce head text).drop ((sealL E nonce head text).length - 16) = tagL E nonce head (ctL E nonce text) := by
  rw [sealL_len, Nat.add_sub_cancel]
  unfold sealL
  have h := ctL_len (E := E) (nonce := nonce) text
  constructor
  · rw [List.take_append_of_le_length (by omega), List.take_of_length_le (by omega)]
  · rw [List.drop_append_of_le_length (by omega), List.drop_of_length_le (by omega), List.nil_append]
/-- What is sealed is opened as it was. -/
theorem open_seal (text : List UInt8) : openL E nonce head (sealL E nonce head text) = some text := by
  unfold openL
  rw [(seal_parts text).1, (seal_parts text).2, if_pos rfl, ctL_twice]
/-- What is opened is sealed to what it was. -/
theorem seal_open {sealed text : List UInt8} (h : openL E nonce head sealed = some text) : sealL E nonce head text = sealed := by
  unfold openL at h
  split at h
  · rename_i ht
    cases h
    unfold sealL
    rw [ctL_twice, ht, List.take_append_drop]
  · cases h
theorem open_len {sealed text : List UInt8} (h : openL E nonce head sealed = some text) : text.length = sealed.length - 16 := by
  unfold openL at h
  split at h
  · cases h
    rw [ctL_len, List.length_take]
    omega
  · cases h
end

/-- Sums that differ at one block alone are not the same, but by the block 0. -/
theorem sum_apart {H : Nat} (hH : H < B128) (h0 : H ≠ 0) (pre : List Nat) {x y : Nat} (hx : x < B128) (hy : y < B128) (hp : ∀ z ∈ pre, z < B128) (post : List Nat) (hq : ∀ z ∈ post, z < B128) (h : sumN H (pre ++ x :: post) = sumN H (pre ++ y :: post)) : x = y := by
  have step : ∀ (post : List Nat) (s t : Nat), (∀ z ∈ post, z < B128) → s < B128 → t < B128 → post.foldl (fun s x => gm (s ^^^ x) H) s = post.foldl (fun s x => gm (s ^^^ x) H) t → s = t := by
    intro post
    induction post with
    | nil => intro s t _ _ _ h; exact h
    | cons z post ih =>
      intro s t hz hs ht h
      have hzz := hz z (List.mem_cons_self)
      have h1 := ih _ _ (fun v hv => hz v (List.mem_cons_of_mem _ hv)) (gm_lt _ (gxor_lt hs hzz)) (gm_lt _ (gxor_lt ht hzz)) h
      have h2 : gm ((s ^^^ z) ^^^ (t ^^^ z)) H = 0 := by
        have := gm_left H (s ^^^ z) (t ^^^ z)
        dsimp only at this
        rw [h1, Nat.xor_self] at this
        exact this
      rcases gm_none (gxor_lt (gxor_lt hs hzz) (gxor_lt ht hzz)) hH h2 with h3 | h3
      · have h4 : (s ^^^ z) ^^^ (t ^^^ z) = s ^^^ t := by rw [xor4, Nat.xor_self, Nat.xor_zero]
        rw [h4] at h3
        have : s ^^^ (s ^^^ t) = s ^^^ 0 := by rw [h3]
        rw [← Nat.xor_assoc, Nat.xor_self, Nat.zero_xor, Nat.xor_zero] at this
        exact this.symm
      · exact absurd h3 h0
  have pr : ∀ (pre : List Nat) (s : Nat), (∀ z ∈ pre, z < B128) → s < B128 → pre.foldl (fun s x => gm (s ^^^ x) H) s < B128 := by
    intro pre
    induction pre with
    | nil => intro s _ hs; exact hs
    | cons z pre ih => intro s hz hs; exact ih _ (fun v hv => hz v (List.mem_cons_of_mem _ hv)) (gm_lt _ (gxor_lt hs (hz z (List.mem_cons_self))))
  unfold sumN at h
  rw [List.foldl_append, List.foldl_append, List.foldl_cons, List.foldl_cons] at h
  have hs := pr pre 0 hp (by decide)
  generalize pre.foldl (fun s x => gm (s ^^^ x) H) 0 = s at h hs
  have h1 := step post _ _ hq (gm_lt _ (gxor_lt hs hx)) (gm_lt _ (gxor_lt hs hy)) h
  have h2 : gm ((s ^^^ x) ^^^ (s ^^^ y)) H = 0 := by
    have := gm_left H (s ^^^ x) (s ^^^ y)
    dsimp only at this
    rw [h1, Nat.xor_self] at this
    exact this
  rcases gm_none (gxor_lt (gxor_lt hs hx) (gxor_lt hs hy)) hH h2 with h3 | h3
  · have h4 : (s ^^^ x) ^^^ (s ^^^ y) = x ^^^ y := by rw [xor4, Nat.xor_self, Nat.zero_xor]
    rw [h4] at h3
    have : x ^^^ (x ^^^ y) = x ^^^ 0 := by rw [h3]
    rw [← Nat.xor_assoc, Nat.xor_self, Nat.zero_xor, Nat.xor_zero] at this
    exact this.symm
  · exact absurd h3 h0

/-- A byte turned by a mask. -/
def turnB (S : List UInt8) (j : Nat) (m : UInt8) : List UInt8 := S.set j (ub S j ^^^ m)
theorem turnB_len (S : List UInt8) (j : Nat) (m : UInt8) : (turnB S j m).length = S.length := by simp [turnB]
theorem ub_turnB {S : List UInt8} {j : Nat} (m : UInt8) (hj : j < S.length) (i : Nat) : ub (turnB S j m) i = if i = j then ub S j ^^^ m else ub S i := by
  unfold turnB ub
  by_cases h : i = j
  · subst h
    simp [List.getD, hj]
  · have h2 : ¬ j = i := fun e => h e.symm
    simp [List.getD, h, h2]
theorem turned_byte {a m : UInt8} (hm : m ≠ 0) : a ^^^ m ≠ a := fun h => hm (by
  have : a ^^^ (a ^^^ m) = a ^^^ a := by rw [h]
  rwa [← UInt8.xor_assoc, UInt8.xor_self, UInt8.zero_xor] at this)
theorem bn_ext {A B : List UInt8} (h : ∀ i, i < 16 → ub A i = ub B i) : bn A = bn B := mkN_ext fun i hi => by unfold co; rw [h (i / 8) (by omega)]
theorem ub_of_bn {A B : List UInt8} (h : bn A = bn B) {i : Nat} (hi : i < 16) : ub A i = ub B i := by rw [← nb_any A hi, ← nb_any B hi, h]
theorem ub_chunk (L : List UInt8) (k : Nat) {i : Nat} (hi : i < 16) : ub ((L.drop (16 * k)).take 16) i = ub L (16 * k + i) := by rw [gub_take, if_pos hi, gub_drop]
theorem fillC_lt (L : List UInt8) : ∀ x ∈ fillC L, x < B128 := by
  intro x hx
  obtain ⟨i, _, rfl⟩ := List.mem_map.1 hx
  exact bn_lt _
theorem fillC_turn {c : List UInt8} {j : Nat} (m : UInt8) (hj : j < c.length) : ∃ A B x y, fillC c = A ++ x :: B ∧ fillC (turnB c j m) = A ++ y :: B ∧ x < B128 ∧ y < B128 ∧ (∀ z ∈ A, z < B128) ∧ (∀ z ∈ B, z < B128) ∧ (x = y → ub c j = ub c j ^^^ m) := by
  have hi : j / 16 < (c.length + 15) / 16 := by omega
  have hi' : j / 16 < (fillC c).length := by rw [fillC_len]; exact hi
  have hl : (fillC (turnB c j m)).length = (fillC c).length := by rw [fillC_len, fillC_len, turnB_len]
  have hi2 : j / 16 < ((turnB c j m).length + 15) / 16 := by rw [turnB_len]; exact hi
  have same : ∀ k, k ≠ j / 16 → (hk : k < (fillC c).length) → (fillC (turnB c j m))[k]'(by omega) = (fillC c)[k] := by
    intro k hne hk
    have hk2 := hk
    rw [fillC_len] at hk2
    rw [fillC_at c hk2, fillC_at (turnB c j m) (by rw [turnB_len]; exact hk2)]
    refine bn_ext fun i hi9 => ?_
    rw [ub_chunk _ _ hi9, ub_chunk _ _ hi9, ub_turnB m hj, if_neg (by omega)]
  refine ⟨(fillC c).take (j / 16), (fillC c).drop (j / 16 + 1), (fillC c)[j / 16], (fillC (turnB c j m))[j / 16]'(by omega), ?_, ?_, fillC_lt _ _ (List.getElem_mem _), fillC_lt _ _ (List.getElem_mem _), fun z hz => fillC_lt _ _ (List.mem_of_mem_take hz), fun z hz => fillC_lt _ _ (List.mem_of_mem_drop hz), fun h => ?_⟩
  · rw [← List.drop_eq_getElem_cons, List.take_append_drop]
  · apply List.ext_getElem
    · simp [hl]; omega
    · intro k h1 h2
      by_cases hlt : k < j / 16
      · rw [List.getElem_append_left (by simp; omega), List.getElem_take]
        exact same k (by omega) (by omega)
      · rw [List.getElem_append_right (by simp; omega)]
        by_cases he : k = j / 16
        · subst he
          simp [Nat.min_eq_left (Nat.le_of_lt hi')]
        · have e1 : k - ((fillC c).take (j / 16)).length = (k - j / 16 - 1) + 1 := by simp; omega
          simp only [e1, List.getElem_cons_succ, List.getElem_drop]
          rw [same k he (by omega)]
          congr 1
          omega
  · rw [fillC_at c hi, fillC_at (turnB c j m) hi2] at h
    have h2 := ub_of_bn h (i := j % 16) (Nat.mod_lt _ (by omega))
    rw [ub_chunk _ _ (Nat.mod_lt _ (by omega)), ub_chunk _ _ (Nat.mod_lt _ (by omega)), show 16 * (j / 16) + j % 16 = j by omega, ub_turnB m hj, if_pos rfl] at h2
    exact h2
theorem sumN_lt (H : Nat) : ∀ (l : List Nat), (∀ z ∈ l, z < B128) → sumN H l < B128 := by
  have pr : ∀ (pre : List Nat) (s : Nat), (∀ z ∈ pre, z < B128) → s < B128 → pre.foldl (fun s x => gm (s ^^^ x) H) s < B128 := by
    intro pre
    induction pre with
    | nil => intro s _ hs; exact hs
    | cons z pre ih => intro s hz hs; exact ih _ (fun v hv => hz v (List.mem_cons_of_mem _ hv)) (gm_lt _ (gxor_lt hs (hz z (List.mem_cons_self))))
  exact fun l hl => pr l 0 hl (by decide)
/-- Sums of a text and of it with one byte turned are not the same. -/
theorem sumL_turn {hb head c : List UInt8} (h16 : hb.length = 16) (h0 : hb ≠ gzeros) {j : Nat} {m : UInt8} (hm : m ≠ 0) (hj : j < c.length) : sumL hb head (turnB c j m) ≠ sumL hb head c := by
  intro h
  unfold sumL at h
  have h1 := nb_inj (sumN_lt _ _ (blocksN_lt _ _)) (sumN_lt _ _ (blocksN_lt _ _)) h
  obtain ⟨A, B, x, y, e1, e2, hx, hy, hA, hB, hxy⟩ := fillC_turn m hj
  have hne : bn hb ≠ 0 := fun e => h0 (bn_inj h16 rfl (by rw [e, bn_zeros]))
  have hlen : lenN head (turnB c j m) = lenN head c := by unfold lenN; rw [turnB_len]
  have f1 : blocksN head c = (fillC head ++ A) ++ x :: (B ++ [lenN head c]) := by unfold blocksN; rw [e1]; simp
  have f2 : blocksN head (turnB c j m) = (fillC head ++ A) ++ y :: (B ++ [lenN head c]) := by unfold blocksN; rw [e2, hlen]; simp
  rw [f1, f2] at h1
  have hp : ∀ z ∈ fillC head ++ A, z < B128 := fun z hz => by
    rcases List.mem_append.1 hz with hz | hz
    · exact fillC_lt _ _ hz
    · exact hA z hz
  have hq : ∀ z ∈ B ++ [lenN head c], z < B128 := fun z hz => by
    rcases List.mem_append.1 hz with hz | hz
    · exact hB z hz
    · rw [List.mem_singleton.1 hz]; exact ofW_lt _ _
  have := sum_apart (bn_lt hb) hne _ hy hx hp _ hq h1
  exact turned_byte hm (hxy this.symm).symm
theorem xorL_inj {a b s : List UInt8} (h : xorL a s = xorL b s) : a = b := by rw [← xorL_twice a s, h, xorL_twice]
/-- With one byte turned it is not opened, but by a key that makes 16 bytes 0 of these. -/
theorem open_turned {E : List UInt8 → List UInt8} {nonce head : List UInt8} (h16 : (E gzeros).length = 16) (h0 : E gzeros ≠ gzeros) (text : List UInt8) {j : Nat} {m : UInt8} (hm : m ≠ 0) (hj : j < text.length + 16) : openL E nonce head (turnB (sealL E nonce head text) j m) = none := by
  have hl := sealL_len (E := E) (nonce := nonce) (head := head) text
  have hcl := ctL_len (E := E) (nonce := nonce) text
  have htl := tagL_len (E := E) (nonce := nonce) (head := head) (ctL E nonce text)
  unfold openL
  rw [turnB_len, hl, Nat.add_sub_cancel, if_neg]
  intro h
  have hjS : j < (sealL E nonce head text).length := by omega
  have hub := ub_turnB m hjS
  by_cases hlt : j < text.length
  · have e1 : (turnB (sealL E nonce head text) j m).take text.length = turnB (ctL E nonce text) j m := by
      refine list_ext (n := text.length) (by rw [List.length_take, turnB_len, hl]; omega) (by rw [turnB_len, hcl]) fun i hi => ?_
      rw [gub_take, if_pos hi, hub, ub_turnB m (by omega)]
      have hs : ∀ i, i < text.length → ub (sealL E nonce head text) i = ub (ctL E nonce text) i := fun i hi => by
        unfold sealL ub
        simp [List.getD, List.getElem?_append_left (show i < (ctL E nonce text).length by omega)]
      rw [hs j hlt, hs i hi]
    have e2 : (turnB (sealL E nonce head text) j m).drop text.length = tagL E nonce head (ctL E nonce text) := by
      refine list_ext (n := 16) (by rw [List.length_drop, turnB_len, hl]; omega) htl fun i hi => ?_
      rw [gub_drop, hub, if_neg (by omega)]
      unfold sealL ub
      simp [List.getD, List.getElem?_append_right (show (ctL E nonce text).length ≤ text.length + i by omega), hcl]
    rw [e1, e2] at h
    unfold tagL at h
    exact sumL_turn h16 h0 hm (by omega) (xorL_inj h)
  · have e1 : (turnB (sealL E nonce head text) j m).take text.length = ctL E nonce text := by
      refine list_ext (n := text.length) (by rw [List.length_take, turnB_len, hl]; omega) hcl fun i hi => ?_
      rw [gub_take, if_pos hi, hub, if_neg (by omega)]
      unfold sealL ub
      simp [List.getD, List.getElem?_append_left (show i < (ctL E nonce text).length by omega)]
    rw [e1] at h
    have h2 := congrArg (fun L => ub L (j - text.length)) h
    have h3 : ub (tagL E nonce head (ctL E nonce text)) (j - text.length) = ub (sealL E nonce head text) j := by
      unfold sealL ub
      simp [List.getD, List.getElem?_append_right (show (ctL E nonce text).length ≤ j by omega), hcl]
    simp only [gub_drop] at h2
    rw [show text.length + (j - text.length) = j by omega, hub, if_pos rfl, h3] at h2
    exact turned_byte hm h2.symm
end Go.Proofs.YtcecjoodlmpgnaaGreat
