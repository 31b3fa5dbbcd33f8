/- Texts of this seat, one behind the other: GcmM, KMath, KTold, FRefM, AMath0, FDbl, FMul, FPow, FRefA. -/
import Derived.Outline
import Derived.Laws.BitsAllLaws
import Derived.IntWalk
import Derived.Test.YtnifgfnocdffcaaFLen
import Derived.Test.YtnifgfnocdffcaaQ01
import Derived.Test.YtnifgfnocdffcaaQ07
/- GCM over any cipher of blocks, in plain texts: what is sealed is opened; what is turned is not; what is opened is sealed to what it was. Nothing of any function. -/
namespace Go.Proofs.Ytnifgfnocdffcaa

/-- A number of 32 bits, as 4 bytes, the highest first. -/
def be4 (c : Nat) : List UInt8 := beL 4 (c % 4294967296)
section
variable (E : List UInt8 → List UInt8)
/-- So many whole blocks of a stream. -/
def strB (nonce : List UInt8) (c : Nat) : Nat → List UInt8
  | 0 => []
  | k + 1 => strB nonce c k ++ E (nonce ++ be4 (c + k))
/-- A stream of so many bytes. -/
def strL (nonce : List UInt8) (c many : Nat) : List UInt8 := (strB E nonce c ((many + 15) / 16)).take many
def tagL (nonce head text : List UInt8) : List UInt8 := xorL (sumL (E gzeros) head text) (strL E nonce 1 16)
def ctL (nonce text : List UInt8) : List UInt8 := xorL text (strL E nonce 2 text.length)
def sealL (nonce head text : List UInt8) : List UInt8 := ctL E nonce text ++ tagL E nonce head (ctL E nonce text)
/-- What is opened, if it is: the text. -/
def openL (nonce head sealed : List UInt8) : Option (List UInt8) :=
  if tagL E nonce head (sealed.take (sealed.length - 16)) = sealed.drop (sealed.length - 16) then some (ctL E nonce (sealed.take (sealed.length - 16))) else none
end

theorem xorL_twice (a b : List UInt8) : xorL (xorL a b) b = a := by
  refine list_ext (n := a.length) (by rw [xorL_len, xorL_len]) rfl fun i hi => ?_
  unfold xorL
  rw [ub_tab _ (by rw [tab_len]; exact hi), ub_tab _ hi, UInt8.xor_assoc, UInt8.xor_self, UInt8.xor_zero]
section
variable {E : List UInt8 → List UInt8} {nonce head : List UInt8}
theorem ctL_len (text : List UInt8) : (ctL E nonce text).length = text.length := xorL_len _ _
theorem ctL_twice (text : List UInt8) : ctL E nonce (ctL E nonce text) = text := by
  unfold ctL
  rw [xorL_len, xorL_twice]
theorem tagL_len (text : List UInt8) : (tagL E nonce head text).length = 16 := by unfold tagL; rw [xorL_len, sumL_len]
theorem sealL_len (text : List UInt8) : (sealL E nonce head text).length = text.length + 16 := by unfold sealL; rw [List.length_append, ctL_len, tagL_len]
theorem seal_parts (text : List UInt8) : (sealL E nonce head text).take ((sealL E nonce head text).length - 16) = ctL E nonce text ∧ (sealL E nonce head text).drop ((sealL E nonce head text).length - 16) = tagL E nonce head (ctL E nonce text) := by
  rw [sealL_len, Nat.add_sub_cancel]
  unfold sealL
  have h := ctL_len (E := E) (nonce := nonce) text
  constructor
  · rw [List.take_append_of_le_length (by omega), List.take_of_length_le (by omega)]
  · rw [List.drop_append_of_le_length (by omega), List.drop_of_length_le (by omega), List.nil_append]
/-- What is sealed is opened as it was. -/
theorem open_seal (text : List UInt8) : openL E nonce head (sealL E nonce head text) = some text := by
  unfold openL
  rw [(seal_parts text).1, (seal_parts text).2, if_pos rfl, ctL_twice]
/-- What is opened is sealed to what it was. -/
theorem seal_open {sealed text : List UInt8} (h : openL E nonce head sealed = some text) : sealL E nonce head text = sealed := by
  unfold openL at h
  split at h
  · rename_i ht
    cases h
    unfold sealL
    rw [ctL_twice, ht, List.take_append_drop]
  · cases h
theorem open_len {sealed text : List UInt8} (h : openL E nonce head sealed = some text) : text.length = sealed.length - 16 := by
  unfold openL at h
  split at h
  · cases h
    rw [ctL_len, List.length_take]
    omega
  · cases h
end

/-- Sums that differ at one block alone are not the same, but by the block 0. -/
theorem sum_apart {H : Nat} (hH : H < B128) (h0 : H ≠ 0) (pre : List Nat) {x y : Nat} (hx : x < B128) (hy : y < B128) (hp : ∀ z ∈ pre, z < B128) (post : List Nat) (hq : ∀ z ∈ post, z < B128) (h : sumN H (pre ++ x :: post) = sumN H (pre ++ y :: post)) : x = y := by
  have step : ∀ (post : List Nat) (s t : Nat), (∀ z ∈ post, z < B128) → s < B128 → t < B128 → post.foldl (fun s x => gm (s ^^^ x) H) s = post.foldl (fun s x => gm (s ^^^ x) H) t → s = t := by
    intro post
    induction post with
    | nil => intro s t _ _ _ h; exact h
    | cons z post ih =>
      intro s t hz hs ht h
      have hzz := hz z (List.mem_cons_self)
      have h1 := ih _ _ (fun v hv => hz v (List.mem_cons_of_mem _ hv)) (gm_lt _ (gxor_lt hs hzz)) (gm_lt _ (gxor_lt ht hzz)) h
      have h2 : gm ((s ^^^ z) ^^^ (t ^^^ z)) H = 0 := by
        have := gm_left H (s ^^^ z) (t ^^^ z)
        dsimp only at this
        rw [h1, Nat.xor_self] at this
        exact this
      rcases gm_none (gxor_lt (gxor_lt hs hzz) (gxor_lt ht hzz)) hH h2 with h3 | h3
      · have h4 : (s ^^^ z) ^^^ (t ^^^ z) = s ^^^ t := by rw [xor4, Nat.xor_self, Nat.xor_zero]
        rw [h4] at h3
        have : s ^^^ (s ^^^ t) = s ^^^ 0 := by rw [h3]
        rw [← Nat.xor_assoc, Nat.xor_self, Nat.zero_xor, Nat.xor_zero] at this
        exact this.symm
      · exact absurd h3 h0
  have pr : ∀ (pre : List Nat) (s : Nat), (∀ z ∈ pre, z < B128) → s < B128 → pre.foldl (fun s x => gm (s ^^^ x) H) s < B128 := by
    intro pre
    induction pre with
    | nil => intro s _ hs; exact hs
    | cons z pre ih => intro s hz hs; exact ih _ (fun v hv => hz v (List.mem_cons_of_mem _ hv)) (gm_lt _ (gxor_lt hs (hz z (List.mem_cons_self))))
  unfold sumN at h
  rw [List.foldl_append, List.foldl_append, List.foldl_cons, List.foldl_cons] at h
  have hs := pr pre 0 hp (by decide)
  generalize pre.foldl (fun s x => gm (s ^^^ x) H) 0 = s at h hs
  have h1 := step post _ _ hq (gm_lt _ (gxor_lt hs hx)) (gm_lt _ (gxor_lt hs hy)) h
  have h2 : gm ((s ^^^ x) ^^^ (s ^^^ y)) H = 0 := by
    have := gm_left H (s ^^^ x) (s ^^^ y)
    dsimp only at this
    rw [h1, Nat.xor_self] at this
    exact this
  rcases gm_none (gxor_lt (gxor_lt hs hx) (gxor_lt hs hy)) hH h2 with h3 | h3
  · have h4 : (s ^^^ x) ^^^ (s ^^^ y) = x ^^^ y := by rw [xor4, Nat.xor_self, Nat.zero_xor]
    rw [h4] at h3
    have : x ^^^ (x ^^^ y) = x ^^^ 0 := by rw [h3]
    rw [← Nat.xor_assoc, Nat.xor_self, Nat.zero_xor, Nat.xor_zero] at this
    exact this.symm
  · exact absurd h3 h0

/-- A byte turned by a mask. -/
def turnB (S : List UInt8) (j : Nat) (m : UInt8) : List UInt8 := S.set j (ub S j ^^^ m)
theorem turnB_len (S : List UInt8) (j : Nat) (m : UInt8) : (turnB S j m).length = S.length := by simp [turnB]
theorem ub_turnB {S : List UInt8} {j : Nat} (m : UInt8) (hj : j < S.length) (i : Nat) : ub (turnB S j m) i = if i = j then ub S j ^^^ m else ub S i := by
  unfold turnB ub
  by_cases h : i = j
  · subst h
    simp [List.getD, hj]
  · have h2 : ¬ j = i := fun e => h e.symm
    simp [List.getD, h, h2]
theorem turned_byte {a m : UInt8} (hm : m ≠ 0) : a ^^^ m ≠ a := fun h => hm (by
  have : a ^^^ (a ^^^ m) = a ^^^ a := by rw [h]
  rwa [← UInt8.xor_assoc, UInt8.xor_self, UInt8.zero_xor] at this)
theorem bn_ext {A B : List UInt8} (h : ∀ i, i < 16 → ub A i = ub B i) : bn A = bn B := mkN_ext fun i hi => by unfold co; rw [h (i / 8) (by omega)]
theorem ub_of_bn {A B : List UInt8} (h : bn A = bn B) {i : Nat} (hi : i < 16) : ub A i = ub B i := by rw [← nb_any A hi, ← nb_any B hi, h]
theorem ub_chunk (L : List UInt8) (k : Nat) {i : Nat} (hi : i < 16) : ub ((L.drop (16 * k)).take 16) i = ub L (16 * k + i) := by rw [gub_take, if_pos hi, gub_drop]
theorem fillC_lt (L : List UInt8) : ∀ x ∈ fillC L, x < B128 := by
  intro x hx
  obtain ⟨i, _, rfl⟩ := List.mem_map.1 hx
  exact bn_lt _
theorem fillC_turn {c : List UInt8} {j : Nat} (m : UInt8) (hj : j < c.length) : ∃ A B x y, fillC c = A ++ x :: B ∧ fillC (turnB c j m) = A ++ y :: B ∧ x < B128 ∧ y < B128 ∧ (∀ z ∈ A, z < B128) ∧ (∀ z ∈ B, z < B128) ∧ (x = y → ub c j = ub c j ^^^ m) := by
  have hi : j / 16 < (c.length + 15) / 16 := by omega
  have hi' : j / 16 < (fillC c).length := by rw [fillC_len]; exact hi
  have hl : (fillC (turnB c j m)).length = (fillC c).length := by rw [fillC_len, fillC_len, turnB_len]
  have hi2 : j / 16 < ((turnB c j m).length + 15) / 16 := by rw [turnB_len]; exact hi
  have same : ∀ k, k ≠ j / 16 → (hk : k < (fillC c).length) → (fillC (turnB c j m))[k]'(by omega) = (fillC c)[k] := by
    intro k hne hk
    have hk2 := hk
    rw [fillC_len] at hk2
    rw [fillC_at c hk2, fillC_at (turnB c j m) (by rw [turnB_len]; exact hk2)]
    refine bn_ext fun i hi9 => ?_
    rw [ub_chunk _ _ hi9, ub_chunk _ _ hi9, ub_turnB m hj, if_neg (by omega)]
  refine ⟨(fillC c).take (j / 16), (fillC c).drop (j / 16 + 1), (fillC c)[j / 16], (fillC (turnB c j m))[j / 16]'(by omega), ?_, ?_, fillC_lt _ _ (List.getElem_mem _), fillC_lt _ _ (List.getElem_mem _), fun z hz => fillC_lt _ _ (List.mem_of_mem_take hz), fun z hz => fillC_lt _ _ (List.mem_of_mem_drop hz), fun h => ?_⟩
  · rw [← List.drop_eq_getElem_cons, List.take_append_drop]
  · apply List.ext_getElem
    · simp [hl]; omega
    · intro k h1 h2
      by_cases hlt : k < j / 16
      · rw [List.getElem_append_left (by simp; omega), List.getElem_take]
        exact same k (by omega) (by omega)
      · rw [List.getElem_append_right (by simp; omega)]
        by_cases he : k = j / 16
        · subst he
          simp [Nat.min_eq_left (Nat.le_of_lt hi')]
        · have e1 : k - ((fillC c).take (j / 16)).length = (k - j / 16 - 1) + 1 := by simp; omega
          simp only [e1, List.getElem_cons_succ, List.getElem_drop]
          rw [same k he (by omega)]
          congr 1
          omega
  · rw [fillC_at c hi, fillC_at (turnB c j m) hi2] at h
    have h2 := ub_of_bn h (i := j % 16) (Nat.mod_lt _ (by omega))
    rw [ub_chunk _ _ (Nat.mod_lt _ (by omega)), ub_chunk _ _ (Nat.mod_lt _ (by omega)), show 16 * (j / 16) + j % 16 = j by omega, ub_turnB m hj, if_pos rfl] at h2
    exact h2
theorem sumN_lt (H : Nat) : ∀ (l : List Nat), (∀ z ∈ l, z < B128) → sumN H l < B128 := by
  have pr : ∀ (pre : List Nat) (s : Nat), (∀ z ∈ pre, z < B128) → s < B128 → pre.foldl (fun s x => gm (s ^^^ x) H) s < B128 := by
    intro pre
    induction pre with
    | nil => intro s _ hs; exact hs
    | cons z pre ih => intro s hz hs; exact ih _ (fun v hv => hz v (List.mem_cons_of_mem _ hv)) (gm_lt _ (gxor_lt hs (hz z (List.mem_cons_self))))
  exact fun l hl => pr l 0 hl (by decide)
/-- Sums of a text and of it with one byte turned are not the same. -/
theorem sumL_turn {hb head c : List UInt8} (h16 : hb.length = 16) (h0 : hb ≠ gzeros) {j : Nat} {m : UInt8} (hm : m ≠ 0) (hj : j < c.length) : sumL hb head (turnB c j m) ≠ sumL hb head c := by
  intro h
  unfold sumL at h
  have h1 := nb_inj (sumN_lt _ _ (blocksN_lt _ _)) (sumN_lt _ _ (blocksN_lt _ _)) h
  obtain ⟨A, B, x, y, e1, e2, hx, hy, hA, hB, hxy⟩ := fillC_turn m hj
  have hne : bn hb ≠ 0 := fun e => h0 (bn_inj h16 rfl (by rw [e, bn_zeros]))
  have hlen : lenN head (turnB c j m) = lenN head c := by unfold lenN; rw [turnB_len]
  have f1 : blocksN head c = (fillC head ++ A) ++ x :: (B ++ [lenN head c]) := by unfold blocksN; rw [e1]; simp
  have f2 : blocksN head (turnB c j m) = (fillC head ++ A) ++ y :: (B ++ [lenN head c]) := by unfold blocksN; rw [e2, hlen]; simp
  rw [f1, f2] at h1
  have hp : ∀ z ∈ fillC head ++ A, z < B128 := fun z hz => by
    rcases List.mem_append.1 hz with hz | hz
    · exact fillC_lt _ _ hz
    · exact hA z hz
  have hq : ∀ z ∈ B ++ [lenN head c], z < B128 := fun z hz => by
    rcases List.mem_append.1 hz with hz | hz
    · exact hB z hz
    · rw [List.mem_singleton.1 hz]; exact ofW_lt _ _
  have := sum_apart (bn_lt hb) hne _ hy hx hp _ hq h1
  exact turned_byte hm (hxy this.symm).symm
theorem xorL_inj {a b s : List UInt8} (h : xorL a s = xorL b s) : a = b := by rw [← xorL_twice a s, h, xorL_twice]
/-- With one byte turned it is not opened, but by a key that makes 16 bytes 0 of these. -/
theorem open_turned {E : List UInt8 → List UInt8} {nonce head : List UInt8} (h16 : (E gzeros).length = 16) (h0 : E gzeros ≠ gzeros) (text : List UInt8) {j : Nat} {m : UInt8} (hm : m ≠ 0) (hj : j < text.length + 16) : openL E nonce head (turnB (sealL E nonce head text) j m) = none := by
  have hl := sealL_len (E := E) (nonce := nonce) (head := head) text
  have hcl := ctL_len (E := E) (nonce := nonce) text
  have htl := tagL_len (E := E) (nonce := nonce) (head := head) (ctL E nonce text)
  unfold openL
  rw [turnB_len, hl, Nat.add_sub_cancel, if_neg]
  intro h
  have hjS : j < (sealL E nonce head text).length := by omega
  have hub := ub_turnB m hjS
  by_cases hlt : j < text.length
  · have e1 : (turnB (sealL E nonce head text) j m).take text.length = turnB (ctL E nonce text) j m := by
      refine list_ext (n := text.length) (by rw [List.length_take, turnB_len, hl]; omega) (by rw [turnB_len, hcl]) fun i hi => ?_
      rw [gub_take, if_pos hi, hub, ub_turnB m (by omega)]
      have hs : ∀ i, i < text.length → ub (sealL E nonce head text) i = ub (ctL E nonce text) i := fun i hi => by
        unfold sealL ub
        simp [List.getD, List.getElem?_append_left (show i < (ctL E nonce text).length by omega)]
      rw [hs j hlt, hs i hi]
    have e2 : (turnB (sealL E nonce head text) j m).drop text.length = tagL E nonce head (ctL E nonce text) := by
      refine list_ext (n := 16) (by rw [List.length_drop, turnB_len, hl]; omega) htl fun i hi => ?_
      rw [gub_drop, hub, if_neg (by omega)]
      unfold sealL ub
      simp [List.getD, List.getElem?_append_right (show (ctL E nonce text).length ≤ text.length + i by omega), hcl]
    rw [e1, e2] at h
    unfold tagL at h
    exact sumL_turn h16 h0 hm (by omega) (xorL_inj h)
  · have e1 : (turnB (sealL E nonce head text) j m).take text.length = ctL E nonce text := by
      refine list_ext (n := text.length) (by rw [List.length_take, turnB_len, hl]; omega) hcl fun i hi => ?_
      rw [gub_take, if_pos hi, hub, if_neg (by omega)]
      unfold sealL ub
      simp [List.getD, List.getElem?_append_left (show i < (ctL E nonce text).length by omega)]
    rw [e1] at h
    have h2 := congrArg (fun L => ub L (j - text.length)) h
    have h3 : ub (tagL E nonce head (ctL E nonce text)) (j - text.length) = ub (sealL E nonce head text) j := by
      unfold sealL ub
      simp [List.getD, List.getElem?_append_right (show (ctL E nonce text).length ≤ j by omega), hcl]
    simp only [gub_drop] at h2
    rw [show text.length + (j - text.length) = j by omega, hub, if_pos rfl, h3] at h2
    exact turned_byte hm h2.symm
end Go.Proofs.Ytnifgfnocdffcaa
/- The bytes of a stream by their places, and what is left of its block; plain lists. -/
namespace Go.Proofs.Ytnifgfnocdffcaa

theorem be4_four (c : Nat) (h : c < 4294967296) : be4 c = [UInt8.ofNat (c / 16777216 % 256), UInt8.ofNat (c / 65536 % 256), UInt8.ofNat (c / 256 % 256), UInt8.ofNat (c % 256)] := by
  unfold be4
  rw [Nat.mod_eq_of_lt h]
  simp [beL]
theorem be4_mod (c : Nat) : be4 (c % 4294967296) = be4 c := by unfold be4; rw [Nat.mod_mod]
theorem be4_len (c : Nat) : (be4 c).length = 4 := beL_len _ _
theorem ub_app (A B : List UInt8) (k : Nat) : ub (A ++ B) k = if k < A.length then ub A k else ub B (k - A.length) := by
  by_cases h : k < A.length
  · rw [if_pos h]; simp [ub, List.getD, List.getElem?_append_left h]
  · rw [if_neg h]; simp [ub, List.getD, List.getElem?_append_right (Nat.le_of_not_lt h)]
section
variable (E : List UInt8 → List UInt8) (nonce : List UInt8) (c : Nat)
/-- A stream's byte at a place. -/
def ksb (k : Nat) : UInt8 := ub (E (nonce ++ be4 (c + k / 16))) (k % 16)
/-- What is left of the block, so many bytes taken. -/
def ksr (k : Nat) : List UInt8 := if k % 16 = 0 then [] else (E (nonce ++ be4 (c + k / 16))).drop (k % 16)
/-- The number of the next block. -/
def ksn (k : Nat) : Nat := (c + (k + 15) / 16) % 4294967296
/-- A text xor a stream. -/
def ksx (t : List UInt8) : List UInt8 := tab t.length fun k => ub t k ^^^ ksb E nonce c k
end
section
variable {E : List UInt8 → List UInt8} {nonce : List UInt8} {c : Nat}
theorem strB_len (hE : ∀ i, (E (nonce ++ be4 i)).length = 16) : ∀ n, (strB E nonce c n).length = 16 * n := by
  intro n
  induction n with
  | zero => rfl
  | succ n ih => rw [strB, List.length_append, ih, hE]; omega
theorem ub_strB (hE : ∀ i, (E (nonce ++ be4 i)).length = 16) : ∀ n k, k < 16 * n → ub (strB E nonce c n) k = ksb E nonce c k := by
  intro n
  induction n with
  | zero => intro k h; omega
  | succ n ih =>
    intro k h
    rw [strB, ub_app, strB_len hE]
    by_cases hk : k < 16 * n
    · rw [if_pos hk, ih k hk]
    · rw [if_neg hk]
      unfold ksb
      rw [show k / 16 = n by omega, show k % 16 = k - 16 * n by omega]
theorem strL_len (hE : ∀ i, (E (nonce ++ be4 i)).length = 16) (n : Nat) : (strL E nonce c n).length = n := by
  unfold strL
  rw [List.length_take, strB_len hE]
  omega
theorem ub_strL (hE : ∀ i, (E (nonce ++ be4 i)).length = 16) {n k : Nat} (hk : k < n) : ub (strL E nonce c n) k = ksb E nonce c k := by
  unfold strL
  rw [gub_take, if_pos hk, ub_strB hE _ _ (by omega)]
theorem ksx_len (t : List UInt8) : (ksx E nonce c t).length = t.length := tab_len _ _
theorem ub_ksx {t : List UInt8} {k : Nat} (hk : k < t.length) : ub (ksx E nonce c t) k = ub t k ^^^ ksb E nonce c k := ub_tab _ hk
theorem ksx_is (hE : ∀ i, (E (nonce ++ be4 i)).length = 16) (t : List UInt8) : ksx E nonce c t = xorL t (strL E nonce c t.length) := by
  unfold ksx xorL
  exact tab_ext fun i hi => by rw [ub_strL hE hi]
theorem ksx_zeros (hE : ∀ i, (E (nonce ++ be4 i)).length = 16) (n : Nat) : ksx E nonce c (List.replicate n 0) = strL E nonce c n := by
  refine list_ext (n := n) (by rw [ksx_len, List.length_replicate]) (strL_len hE _) fun i hi => ?_
  rw [ub_ksx (by rw [List.length_replicate]; exact hi), ub_strL hE hi]
  have : ub (List.replicate n (0 : UInt8)) i = 0 := by simp [ub, List.getD, hi]
  rw [this, UInt8.zero_xor]
/-- Behind a byte that is taken of a block that was not. -/
theorem ksr_first {k : Nat} (hk : k % 16 = 0) (b : UInt8) (r : List UInt8) (he : E (nonce ++ be4 (c + k / 16)) = b :: r) : ksb E nonce c k = b ∧ ksr E nonce c (k + 1) = r ∧ ksn c (k + 1) = (ksn c k + 1) % 4294967296 ∧ ksr E nonce c k = [] ∧ be4 (ksn c k) = be4 (c + k / 16) := by
  refine ⟨?_, ?_, ?_, ?_, ?_⟩
  · unfold ksb; rw [hk, he]; rfl
  · unfold ksr
    rw [if_neg (by omega), show (k + 1) / 16 = k / 16 by omega, show (k + 1) % 16 = 1 by omega, he]
    rfl
  · unfold ksn
    rw [show (k + 1 + 15) / 16 = (k + 15) / 16 + 1 by omega]
    omega
  · unfold ksr; rw [if_pos hk]
  · unfold ksn
    rw [be4_mod, show (k + 15) / 16 = k / 16 by omega]
/-- Behind a byte that is taken of a block that was begun. -/
theorem ksr_more (hE : ∀ i, (E (nonce ++ be4 i)).length = 16) {k : Nat} (hk : k % 16 ≠ 0) : ∃ b r, ksr E nonce c k = b :: r ∧ ksb E nonce c k = b ∧ ksr E nonce c (k + 1) = r ∧ ksn c (k + 1) = ksn c k := by
  have hl := hE (c + k / 16)
  have hd := List.drop_eq_getElem_cons (l := E (nonce ++ be4 (c + k / 16))) (i := k % 16) (by omega)
  refine ⟨(E (nonce ++ be4 (c + k / 16)))[k % 16]'(by omega), (E (nonce ++ be4 (c + k / 16))).drop (k % 16 + 1), ?_, ?_, ?_, ?_⟩
  · unfold ksr; rw [if_neg hk]; exact hd
  · unfold ksb; exact ub_at (by omega)
  · unfold ksr
    by_cases h : (k + 1) % 16 = 0
    · rw [if_pos h, List.drop_of_length_le (by omega)]
    · rw [if_neg h, show (k + 1) / 16 = k / 16 by omega, show (k + 1) % 16 = k % 16 + 1 by omega]
  · unfold ksn
    rw [show (k + 1 + 15) / 16 = (k + 15) / 16 by omega]
end
end Go.Proofs.Ytnifgfnocdffcaa
/- The contracts of told and of the reference's counter: a number's 4 bytes. -/
namespace Go.Proofs.Ytnifgfnocdffcaa
open Go.RowKit

theorem four_conv (x0 x1 x2 x3 : Int) (b0 b1 b2 b3 : UInt8) (h0 : x0 = (b0.toNat : Int)) (h1 : x1 = (b1.toNat : Int)) (h2 : x2 = (b2.toNat : Int)) (h3 : x3 = (b3.toNat : Int)) (W : World) :
    (convert 37 9 (.slice (some ⟨W.heap.size, 0, none⟩) 4 4)).run Try.prog (W.alloc (.cells #[.int .u8 x0, .int .u8 x1, .int .u8 x2, .int .u8 x3] 5)) = .ok (.string ⟨[b0, b1, b2, b3].toArray⟩) (W.alloc (.cells #[.int .u8 x0, .int .u8 x1, .int .u8 x2, .int .u8 x3] 5)) := by
  subst h0 h1 h2 h3
  exact run_convert_bytes_back (P := Try.prog) (W.alloc (.cells #[.int .u8 (b0.toNat : Int), .int .u8 (b1.toNat : Int), .int .u8 (b2.toNat : Int), .int .u8 (b3.toNat : Int)] 5)) 37 9 5 ⟨W.heap.size, 0, none⟩ 4 [b0, b1, b2, b3] Try.underlying37 Try.underlying5 Try.underlying9 (fun j hj => by
    obtain rfl | rfl | rfl | rfl : j = 0 ∨ j = 1 ∨ j = 2 ∨ j = 3 := by simp at hj; omega
    all_goals simp [Addr.add])
theorem be4_conv (c : Nat) (hc : c < 4294967296) (x0 x1 x2 x3 : Int) (h0 : x0 = ((c / 16777216 % 256 : Nat) : Int)) (h1 : x1 = ((c / 65536 % 256 : Nat) : Int)) (h2 : x2 = ((c / 256 % 256 : Nat) : Int)) (h3 : x3 = ((c % 256 : Nat) : Int)) (W : World) :
    (convert 37 9 (.slice (some ⟨W.heap.size, 0, none⟩) 4 4)).run Try.prog (W.alloc (.cells #[.int .u8 x0, .int .u8 x1, .int .u8 x2, .int .u8 x3] 5)) = .ok (.string ⟨(be4 c).toArray⟩) (W.alloc (.cells #[.int .u8 x0, .int .u8 x1, .int .u8 x2, .int .u8 x3] 5)) := by
  rw [be4_four c hc]
  have hm : ∀ n : Nat, (UInt8.ofNat (n % 256)).toNat = n % 256 := fun n => by simp
  exact four_conv x0 x1 x2 x3 _ _ _ _ (by rw [hm]; exact h0) (by rw [hm]; exact h1) (by rw [hm]; exact h2) (by rw [hm]; exact h3) W

set_option maxRecDepth 100000 in
set_option maxHeartbeats 2000000 in
theorem ktold_any (c : Nat) (w : World) (hc : c < 4294967296) : Calls Try.prog 60 #[.int .u32 (c : Int)] w fun e w' => e = .returned (.string ⟨(be4 c).toArray⟩) ∧ Below w.heap.size w w' := by
  have hcv := be4_conv c hc ((c : Int) / 16777216) ((c : Int) / 65536 % 256) ((c : Int) / 256 % 256) ((c : Int) % 256) (by omega) (by omega) (by omega) (by omega) w
  generalize be4 c = B at hcv ⊢
  go_enter Try.func60, Try.ntmps60
  go_wp2
  go_ret
  exact ⟨rfl, ba (Below.refl _ _) _⟩
set_option maxRecDepth 100000 in
set_option maxHeartbeats 2000000 in
theorem kcounter_any (c : Nat) (w : World) (hc : c < 4294967296) : Calls Try.prog 24 #[.int .u32 (c : Int)] w fun e w' => e = .returned (.string ⟨(be4 c).toArray⟩) ∧ Below w.heap.size w w' := by
  have hcv := be4_conv c hc ((c : Int) / 16777216) ((c : Int) / 65536 % 256) ((c : Int) / 256 % 256) ((c : Int) % 256) (by omega) (by omega) (by omega) (by omega) w
  generalize be4 c = B at hcv ⊢
  go_enter Try.func24, Try.ntmps24
  go_wp2
  go_ret
  exact ⟨rfl, ba (Below.refl _ _) _⟩
end Go.Proofs.Ytnifgfnocdffcaa
/- The reference's product, inverse and box in plain numbers, and that they are the code's. -/
namespace Go.Proofs.Ytnifgfnocdffcaa

/-- The long product, of so many bits. -/
def longN (a b : Nat) : Nat → Nat
  | 0 => 0
  | k + 1 => longN a b k ^^^ sel (b.testBit k) (a * 2 ^ k)
/-- What is left of it behind so many steps. -/
def leftN (n : Nat) : Nat → Nat
  | 0 => n
  | j + 1 => leftN n j ^^^ sel ((leftN n j).testBit (14 - j)) (283 * 2 ^ (6 - j))
theorem lin_longL (b k : Nat) : Lin fun a => longN a b k := by
  induction k with
  | zero => exact Lin.none
  | succ k ih => exact Lin.add (f := fun a => longN a b k) ih (Lin.sel (f := fun a => a * 2 ^ k) (lin_mul k) _)
theorem lin_longR (a k : Nat) : Lin fun b => longN a b k := by
  induction k with
  | zero => exact Lin.none
  | succ k ih => exact Lin.add (f := fun b => longN a b k) ih (Lin.bit k _)
theorem lin_leftN (j : Nat) : Lin fun n => leftN n j := by
  induction j with
  | zero => exact Lin.self
  | succ j ih => exact Lin.add (f := fun n => leftN n j) ih (Lin.comp (f := fun m => sel (m.testBit (14 - j)) (283 * 2 ^ (6 - j))) (Lin.bit _ _) ih)
def rm (a b : Nat) : Nat := leftN (longN a b 8) 7 % 256
theorem rm_is {a b : Nat} (ha : a < 256) (hb : b < 256) : rm a b = cm a b := by
  have key : ∀ i, i < 8 → ∀ j, j < 8 → rm (2 ^ i) (2 ^ j) = cm (2 ^ i) (2 ^ j) := by decide +kernel
  have hl : ∀ b, Lin fun a => rm a b := fun b => Lin.comp (f := fun n => leftN n 7 % 256) (Lin.comp (f := fun n => n % 256) (lin_mod 8) (lin_leftN 7)) (lin_longL b 8)
  have hr : ∀ a, Lin fun b => rm a b := fun a => Lin.comp (f := fun n => leftN n 7 % 256) (Lin.comp (f := fun n => n % 256) (lin_mod 8) (lin_leftN 7)) (lin_longR a 8)
  exact byte_ext (f := fun a => rm a b) (g := fun a => cm a b) (hl b) (cm_left b) (fun i hi =>
    byte_ext (f := fun b => rm (2 ^ i) b) (g := fun b => cm (2 ^ i) b) (hr _) (cm_right _) (key i hi) b hb) a ha
theorem xor_lt15 {a b : Nat} (h : a < 32768) (k : b < 32768) : a ^^^ b < 32768 := Nat.xor_lt_two_pow (n := 15) h k
theorem mul_pow_le (a k m : Nat) (ha : a ≤ 283) (hk : k ≤ m) : a * 2 ^ k ≤ 283 * 2 ^ m := Nat.mul_le_mul ha (Nat.pow_le_pow_right (by omega) hk)
theorem longN_lt {a : Nat} (ha : a < 256) (b k : Nat) (hk : k ≤ 8) : longN a b k < 32768 := by
  induction k with
  | zero => exact (by decide : (0 : Nat) < 32768)
  | succ k ih =>
    have h1 : a * 2 ^ k ≤ 255 * 2 ^ 7 := Nat.mul_le_mul (by omega) (Nat.pow_le_pow_right (by omega) (by omega))
    exact xor_lt15 (ih (by omega)) (sel_lt (by omega) (by omega))
theorem leftN_lt {n : Nat} (hn : n < 32768) (j : Nat) (hj : j ≤ 7) : leftN n j < 32768 := by
  induction j with
  | zero => exact hn
  | succ j ih =>
    have h1 := mul_pow_le 283 (6 - j) 6 (by omega) (by omega)
    exact xor_lt15 (ih (by omega)) (sel_lt (by omega) (by omega))

/-- A byte's box, so many bits of it. -/
def sumB (b i : Nat) : Nat := b / 2 ^ i % 2 + b / 2 ^ ((i + 4) % 8) % 2 + b / 2 ^ ((i + 5) % 8) % 2 + b / 2 ^ ((i + 6) % 8) % 2 + b / 2 ^ ((i + 7) % 8) % 2 + 99 / 2 ^ i % 2
def rbox (b : Nat) : Nat → Nat
  | 0 => 0
  | k + 1 => rbox b k + sumB b k % 2 * 2 ^ k
theorem rbox_lt (b k : Nat) : rbox b k < 2 ^ k := by
  induction k with
  | zero => exact (by decide : (0 : Nat) < 1)
  | succ k ih =>
    rw [rbox, Nat.pow_succ]
    rcases Nat.mod_two_eq_zero_or_one (sumB b k) with h | h <;> rw [h] <;> omega
theorem rbox_is {b : Nat} (h : b < 256) : rbox b 8 = boxI b := by
  have key : ∀ b, b < 256 → rbox b 8 = boxI b := by decide +kernel
  exact key b h
theorem box_of {a : Nat} (h : a < 256) : boxI (inv a) = box a := (box_all a h).1
theorem box_lt {a : Nat} (h : a < 256) : box a < 256 := (box_all a h).2.1
theorem rbox_inv {a : Nat} (h : a < 256) : rbox (inv a) 8 = box a := by rw [rbox_is (inv_lt h), box_of h]
end Go.Proofs.Ytnifgfnocdffcaa
/- Blocks, words and keys in plain lists of bytes: nothing of the program. -/
namespace Go.Proofs.Ytnifgfnocdffcaa

/-- A byte's box, product, and a power of 2. -/
def box8 (b : UInt8) : UInt8 := UInt8.ofNat (box b.toNat)
def mul8 (a b : UInt8) : UInt8 := UInt8.ofNat (cm a.toNat b.toNat)
def pw8 (n : Nat) : UInt8 := UInt8.ofNat (pw 2 n)
theorem ofNat_nat {n : Nat} (h : n < 256) : (UInt8.ofNat n).toNat = n := by simp; omega
theorem box8_nat (b : UInt8) : (box8 b).toNat = box b.toNat := ofNat_nat (box_lt b.toNat_lt)
theorem mul8_nat (a b : UInt8) : (mul8 a b).toNat = cm a.toNat b.toNat := ofNat_nat (cm_lt _ a.toNat_lt)
theorem pw8_nat (n : Nat) : (pw8 n).toNat = pw 2 n := ofNat_nat (pw_lt (by omega) n)
theorem box8_inj {a b : UInt8} (h : box8 a = box8 b) : a = b := by
  apply UInt8.toNat_inj.1
  exact box_inj a.toNat_lt b.toNat_lt (by rw [← box8_nat, ← box8_nat, h])
def mixB (a b c d : UInt8) : UInt8 := mul8 a 2 ^^^ mul8 b 3 ^^^ c ^^^ d
def xorW (A B : List UInt8) : List UInt8 := tab 4 fun i => ub A i ^^^ ub B i
def boxW (A : List UInt8) : List UInt8 := tab 4 fun i => box8 (ub A i)
def mixW (A : List UInt8) : List UInt8 := tab 4 fun r => mixB (ub A r) (ub A ((r + 1) % 4)) (ub A ((r + 2) % 4)) (ub A ((r + 3) % 4))
/-- A block's column, or a key's word. -/
def colG (G : List UInt8) (c : Nat) : List UInt8 := tab 4 fun r => ub G (4 * c + r)
def boxG (G : List UInt8) : List UInt8 := tab 16 fun i => box8 (ub G i)
def turnG (G : List UInt8) : List UInt8 := tab 16 fun i => ub G (4 * ((i / 4 + i % 4) % 4) + i % 4)
def mixG (G : List UInt8) : List UInt8 := tab 16 fun i => ub (mixW (colG G (i / 4))) (i % 4)
def keyG (G K : List UInt8) : List UInt8 := tab 16 fun i => ub G i ^^^ ub K i
theorem boxG_len (G : List UInt8) : (boxG G).length = 16 := tab_len _ _
theorem turnG_len (G : List UInt8) : (turnG G).length = 16 := tab_len _ _
theorem mixG_len (G : List UInt8) : (mixG G).length = 16 := tab_len _ _
theorem keyG_len (G K : List UInt8) : (keyG G K).length = 16 := tab_len _ _

/-- The word ahead of word i, as word i is made of it. -/
def scrW (W : List UInt8) (i own : Nat) : List UInt8 :=
  if i % own = 0 then [box8 (ub W 1) ^^^ pw8 (i / own - 1), box8 (ub W 2), box8 (ub W 3), box8 (ub W 0)]
  else if own = 8 ∧ i % own = 4 then boxW W else W
def nextW (F : List UInt8) (i own : Nat) : List UInt8 := xorW (colG F (i - own)) (scrW (colG F (i - 1)) i own)
/-- A key's bytes, and so many words behind them. -/
def kwN (key : List UInt8) (own : Nat) : Nat → List UInt8
  | 0 => key
  | j + 1 => kwN key own j ++ nextW (kwN key own j) (own + j) own
theorem nextW_len (F : List UInt8) (i own : Nat) : (nextW F i own).length = 4 := tab_len _ _
theorem kwN_len (key : List UInt8) (own : Nat) (h : key.length = 4 * own) (j : Nat) : (kwN key own j).length = 4 * (own + j) := by
  induction j with
  | zero => exact h
  | succ j ih => rw [kwN, List.length_append, ih, nextW_len]; omega
/-- All of a key's round keys, one behind the other. -/
def keysF (key : List UInt8) : List UInt8 := kwN key (key.length / 4) (3 * (key.length / 4) + 28)
def keyAt (F : List UInt8) (i : Nat) : List UInt8 := tab 16 fun j => ub F (16 * i + j)
def roundE (last : Nat) (F s : List UInt8) (i : Nat) : List UInt8 :=
  if i = 0 then keyG s (keyAt F 0)
  else if i = last then keyG (turnG (boxG s)) (keyAt F i)
  else keyG (mixG (turnG (boxG s))) (keyAt F i)
def encN (last : Nat) (F s : List UInt8) : Nat → List UInt8
  | 0 => s
  | k + 1 => roundE last F (encN last F s k) k
def encL (key block : List UInt8) : List UInt8 := encN (key.length / 4 + 6) (keysF key) block (key.length / 4 + 7)
theorem roundE_len (last : Nat) (F s : List UInt8) (i : Nat) : (roundE last F s i).length = 16 := by
  unfold roundE
  split
  · exact keyG_len _ _
  · split <;> exact keyG_len _ _
theorem encN_len (last : Nat) (F s : List UInt8) (h : s.length = 16) (k : Nat) : (encN last F s k).length = 16 := by
  cases k with
  | zero => exact h
  | succ k => exact roundE_len _ _ _ _
theorem keysF_len (key : List UInt8) (h : key.length = 16 ∨ key.length = 32) : (keysF key).length = 16 * (key.length / 4 + 7) := by
  rw [keysF, kwN_len _ _ (by omega)]
  omega
end Go.Proofs.Ytnifgfnocdffcaa
/- The contract of double. -/
namespace Go.Proofs.Ytnifgfnocdffcaa
open Go.RowKit

theorem ret_u8 {a b : Nat} (h : a = b) : Ending.returned (.int .u8 (a : Int)) = .returned (.int .u8 (b : Int)) := by rw [h]
theorem dbl_lo {a : Nat} (h : a < 128) : dbl a = a * 2 := by
  have key : ∀ a, a < 128 → dbl a = a * 2 := by decide +kernel
  exact key a h
theorem dbl_hi {a : Nat} (h : 128 ≤ a) (h2 : a < 256) : dbl a = ((a - 128) * 2) ^^^ 27 := by
  have key : ∀ a, a < 128 → dbl (a + 128) = (a * 2) ^^^ 27 := by decide +kernel
  have := key (a - 128) (by omega)
  rwa [Nat.sub_add_cancel h] at this
set_option maxRecDepth 100000 in
set_option maxHeartbeats 1000000 in
theorem dbl_any (a : Nat) (w : World) (ha : (a : Int) < 256) :
    Calls Try.prog 78 #[.int .u8 (a : Int)] w fun e w' => e = .returned (.int .u8 (dbl a : Nat)) ∧ w = w' := by
  by_cases h : a < 128
  · have h1 : ((a : Int) / 128 == 0) = true := by simp; omega
    have h2 : ((a : Int) / 128 != 0) = false := by simp; omega
    have H := Lib.hid (dbl_lo h)
    have h3 : (a : Int) < 128 := by omega
    clear h
    go_enter Try.func78, Try.ntmps78
    go_wp2
    go_ret
    rw [H.out]
    exact ⟨by simp, rfl⟩
  · have h1 : ((a : Int) / 128 == 0) = false := by simp; omega
    have h2 : ((a : Int) / 128 != 0) = true := by simp; omega
    have H : Hid (((dbl a : Nat) : Int) = bits .xor .u8 ((a : Int) * 2 % 256) 27) := Lib.hid (by
      rw [dbl_hi (by omega) (by omega), show ((a : Int) * 2 % 256) = (((a - 128) * 2 : Nat) : Int) by omega]
      exact (u8_xor_nat ((a - 128) * 2) 27 (by omega) (by omega)).symm)
    have h3 : (128 : Int) ≤ (a : Int) := by omega
    clear h
    go_enter Try.func78, Try.ntmps78
    go_wp2
    go_ret
    rw [H.out]
    exact ⟨rfl, rfl⟩
end Go.Proofs.Ytnifgfnocdffcaa
/- The contract of Mul: two bytes' product. -/
namespace Go.Proofs.Ytnifgfnocdffcaa
open Go.RowKit

theorem and1_u8 (b : Nat) (h : b < 256) : bits .and .u8 (b : Int) 1 = ((b % 2 : Nat) : Int) := by
  have h1 := u8_and_nat b 1 h (by omega)
  rw [Nat.and_one_is_mod] at h1
  exact h1
set_option maxRecDepth 100000 in
set_option maxHeartbeats 1000000 in
theorem mul_any (a b : Nat) (w : World) (ha : (a : Int) < 256) (hb : (b : Int) < 256) :
    Calls Try.prog 56 #[.int .u8 (a : Int), .int .u8 (b : Int)] w fun e w' => e = .returned (.int .u8 (cm a b : Nat)) ∧ w = w' := by
  have HC : Hid (mulF 8 0 a b = cm a b) := Lib.hid (by rw [mulF_is, Nat.zero_xor]; rfl)
  go_enter Try.func56, Try.ntmps56
  go_wp2_with fail
  go_loop [0, 1, 5] (fun av bv pv => ∃ k p x y : Nat, y < 2 ^ k ∧ k ≤ 8 ∧ av = .int .u8 (x : Int) ∧ bv = .int .u8 (y : Int) ∧ pv = .int .u8 (p : Int) ∧ (x : Int) < 256 ∧ (p : Int) < 256 ∧ (y : Int) < 256 ∧ Hid (mulF k p x y = cm a b)) (fun _ bv _ => (intOf bv).toNat)
  case atStart => exact ⟨8, 0, a, b, by omega, Nat.le_refl _, rfl, rfl, rfl, by omega, by omega, by omega, HC⟩
  case round =>
    clear HC
    obtain ⟨k, p, x, y, hy, hk, rfl, rfl, rfl, hx, hp, hyy, HF⟩ := hrel
    by_cases h0 : y = 0
    · subst h0
      have HE : Hid (cm a b = p) := Lib.hid (by rw [← HF.out, mulF_zero])
      go_wp2_with fail
      go_ret
      rw [HE.out]
      exact ⟨rfl, rfl⟩
    · obtain ⟨j, rfl⟩ : ∃ j, k = j + 1 := ⟨k - 1, by
        cases k with
        | zero => simp at hy; omega
        | succ k => rfl⟩
      have hy2 : y / 2 < 2 ^ j := by rw [Nat.pow_succ] at hy; omega
      have hand := and1_u8 y (by omega)
      have hy0 : ((y : Int) == 0) = false := by simp; omega
      have hy1 : ((y : Int) != 0) = true := by simp; omega
      have hlt := dbl_lt x
      have hlt' : ((dbl x : Nat) : Int) < 256 := by omega
      have HD := Lib.hid (dbl_any x w hx)
      have hpos : 0 < y := by omega
      clear hlt hy
      rcases Nat.mod_two_eq_zero_or_one y with hm | hm
      · rw [hm] at hand
        have HE : Hid (mulF j p (dbl x) (y / 2) = cm a b) := Lib.hid (by
          rw [← HF.out, mulF, Nat.testBit_eq_decide_div_mod_eq]; simp [hm, sel])
        have HM := Lib.hid hm
        clear hm h0
        go_wp2_with fail
        refine HD.out.mono ?_
        rintro e w1 ⟨rfl, rfl⟩
        go_wp2_with fail
        exact ⟨⟨j, p, dbl x, y / 2, hy2, by omega, rfl, by simp, rfl, hlt', hp, by omega, HE⟩, by simp [intOf]; omega⟩
      · rw [hm] at hand
        have hq : p ^^^ x < 256 := xor_lt8 (by omega) (by omega)
        have hxor := u8_xor_nat p x (by omega) (by omega)
        have HE : Hid (mulF j (p ^^^ x) (dbl x) (y / 2) = cm a b) := Lib.hid (by
          rw [← HF.out, mulF, Nat.testBit_eq_decide_div_mod_eq]; simp [hm, sel])
        have hq' : ((p ^^^ x : Nat) : Int) < 256 := by omega
        obtain ⟨q, hqq⟩ : ∃ q, p ^^^ x = q := ⟨_, rfl⟩
        rw [hqq] at hxor HE hq'
        have HM := Lib.hid hm
        clear hm h0 hq hqq
        go_wp2_with fail
        refine HD.out.mono ?_
        rintro e w1 ⟨rfl, rfl⟩
        go_wp2_with fail
        exact ⟨⟨j, q, dbl x, y / 2, hy2, by omega, rfl, by simp, rfl, hlt', hq', by omega, HE⟩, by simp [intOf]; omega⟩
end Go.Proofs.Ytnifgfnocdffcaa
/- The contracts of Pow and Inv. -/
namespace Go.Proofs.Ytnifgfnocdffcaa
open Go.RowKit

theorem bitLen_cov (x : Nat) (h : x < 2 ^ 64) : x < 2 ^ Lib.bitLen x := by
  have key : ∀ f x, x < 2 ^ f → x < 2 ^ Lib.bitLenAux f x := by
    intro f
    induction f with
    | zero => intro x h; exact h
    | succ f ih =>
      intro x h
      rw [Lib.bitLenAux]
      split
      · omega
      · have := ih (x / 2) (by rw [Nat.pow_succ] at h; omega)
        rw [Nat.add_comm 1, Nat.pow_succ]
        omega
  exact key 64 x h
theorem and1_i64 (b : Nat) (h : b < 9223372036854775808) : bits .and .i64 (b : Int) 1 = ((b % 2 : Nat) : Int) := by
  have h1 := (bits_nat .i64 63 (by decide) (fun n h0 h1 => by rw [IntKind.wrap_i64]; omega) b 1 h (by omega)).1
  rw [Nat.and_one_is_mod] at h1
  exact h1

set_option maxRecDepth 100000 in
set_option maxHeartbeats 1000000 in
theorem len_any (n : Nat) (w : World) (hn : (n : Int) ≤ 9223372036854775807) :
    Calls Try.prog 100 #[.int .u64 (n : Int)] w fun e w' => e = .returned (.int .i64 (Lib.bitLen n : Nat)) ∧ w = w' := by
  have H := Lib.hid (len64_any (n : Int) w (by omega) (by omega))
  go_enter Try.func100, Try.ntmps100
  go_wp2_with fail
  refine H.out.mono ?_
  rintro e w' ⟨rfl, rfl⟩
  go_wp2_with fail
  go_ret
  exact ⟨rfl, rfl⟩

set_option maxRecDepth 100000 in
set_option maxHeartbeats 2000000 in
theorem pow_any (a : Nat) (n : Int) (w : World) (ha : (a : Int) < 256) (hn : n ≤ 9223372036854775807) (hn0 : -9223372036854775808 ≤ n) :
    Calls Try.prog 77 #[.int .u8 (a : Int), .int .i64 n] w fun e w' => e = .returned (.int .u8 (pw a n.toNat : Nat)) ∧ w = w' := by
  have ha' : a < 256 := by omega
  obtain ⟨m, hm⟩ : ∃ m : Nat, n.toNat = m := ⟨_, rfl⟩
  have hmx : max n 0 = (m : Int) := by omega
  have hmb : (m : Int) ≤ 9223372036854775807 := by omega
  have hL := bitLen_cov m (by omega)
  have hL2 := Lib.bitLen_le m 63 (by omega) (by omega)
  have HL := Lib.hid (len_any m w hmb)
  obtain ⟨L, hLL⟩ : ∃ L, Lib.bitLen m = L := ⟨_, rfl⟩
  rw [hLL] at hL hL2 HL
  rw [hm]
  have HN : Hid (L = 0 ∨ n = (m : Int)) := Lib.hid (by
    by_cases h : 0 ≤ n
    · right; omega
    · left
      have : m = 0 := by omega
      subst this
      rw [← hLL]
      rfl)
  clear hLL hm
  go_enter Try.func77, Try.ntmps77
  go_wp2_with fail
  refine HL.out.mono ?_
  rintro e w' ⟨rfl, rfl⟩
  clear hmx
  have H0 : Hid (pw a (m % 2 ^ 0) = 1) := Lib.hid (by simp [Nat.mod_one, pw])
  have H1 : Hid (pw a (2 ^ 0) = a) := Lib.hid (pw_one ha')
  go_wp2_with fail
  go_loop [5, 6, 13] (fun pv sv iv => ∃ k p s : Nat, k ≤ L ∧ pv = .int .u8 (p : Int) ∧ sv = .int .u8 (s : Int) ∧ iv = .int .i64 (k : Int) ∧ (p : Int) < 256 ∧ (s : Int) < 256 ∧ Hid (pw a (m % 2 ^ k) = p) ∧ Hid (pw a (2 ^ k) = s)) (fun _ _ iv => L - (intOf iv).toNat)
  case atStart => exact ⟨0, 1, a, Nat.zero_le _, rfl, rfl, rfl, by omega, by omega, H0, H1⟩
  case round =>
    clear H0 H1
    obtain ⟨k, p, s, hk, rfl, rfl, rfl, hp, hs, HP, HS⟩ := hrel
    by_cases hlt : k < L
    · have HX := Lib.hid (pw_bit ha' m k)
      have HY := Lib.hid (pw_sq ha' k)
      rw [HP.out, HS.out] at HX
      rw [HS.out] at HY
      have hnm : n = (m : Int) := by
        rcases HN.out with h | h
        · omega
        · exact h
      subst hnm
      have hq : m / 2 ^ k ≤ 9223372036854775807 := Nat.le_trans (Nat.div_le_self _ _) (by omega)
      have hsh : (m : Int) / 2 ^ k = ((m / 2 ^ k : Nat) : Int) := by simp
      obtain ⟨q, hqq⟩ : ∃ q, m / 2 ^ k = q := ⟨_, rfl⟩
      rw [hqq] at hsh hq
      have hand := and1_i64 q (by omega)
      have HB : Hid (m.testBit k = decide (q % 2 = 1)) := Lib.hid (by rw [Nat.testBit_eq_decide_div_mod_eq, hqq])
      have hps := cm_lt (a := p) s (by omega)
      have hss := cm_lt (a := s) s (by omega)
      have hps' : ((cm p s : Nat) : Int) < 256 := by omega
      have hss' : ((cm s s : Nat) : Int) < 256 := by omega
      have HM := Lib.hid (mul_any p s w hp hs)
      have HM2 := Lib.hid (mul_any s s w hs hs)
      have hk63 : k ≤ 62 := by omega
      clear hps hss hqq HN hL
      rcases Nat.mod_two_eq_zero_or_one q with hm | hm
      · rw [hm] at hand
        rw [HB.out, hm] at HX
        have HE : Hid (pw a (m % 2 ^ (k + 1)) = p) := Lib.hid (by rw [HX.out]; simp)
        clear hm HX HB
        go_wp2_with fail
        refine HM2.out.mono ?_
        rintro e w1 ⟨rfl, rfl⟩
        go_wp2_with fail
        exact ⟨⟨k + 1, p, cm s s, by omega, rfl, rfl, by go_num, hp, hss', HE, HY⟩, by simp [intOf]; omega⟩
      · rw [hm] at hand
        rw [HB.out, hm] at HX
        have HE : Hid (pw a (m % 2 ^ (k + 1)) = cm p s) := Lib.hid (by rw [HX.out]; simp)
        clear hm HX HB
        go_wp2_with fail
        refine HM.out.mono ?_
        rintro e w1 ⟨rfl, rfl⟩
        go_wp2_with fail
        refine HM2.out.mono ?_
        rintro e w1 ⟨rfl, rfl⟩
        go_wp2_with fail
        exact ⟨⟨k + 1, cm p s, cm s s, by omega, rfl, rfl, by go_num, hps', hss', HE, HY⟩, by simp [intOf]; omega⟩
    · obtain rfl : k = L := by omega
      have HE : Hid (pw a m = p) := Lib.hid (by rw [← HP.out, Nat.mod_eq_of_lt hL])
      go_wp2_with fail
      go_ret
      rw [HE.out]
      exact ⟨rfl, rfl⟩

set_option maxRecDepth 100000 in
set_option maxHeartbeats 1000000 in
theorem inv_any (a : Nat) (w : World) (ha : (a : Int) < 256) :
    Calls Try.prog 55 #[.int .u8 (a : Int)] w fun e w' => e = .returned (.int .u8 (inv a : Nat)) ∧ w = w' := by
  have H := Lib.hid (pow_any a 254 w ha (by omega) (by omega))
  have HE : Hid (pw a (Int.toNat 254) = inv a) := Lib.hid (pw_254 (by omega))
  go_enter Try.func55, Try.ntmps55
  go_wp2_with fail
  refine H.out.mono ?_
  rintro e w' ⟨rfl, rfl⟩
  rw [HE.out]
  go_wp2_with fail
  go_ret
  exact ⟨rfl, rfl⟩
end Go.Proofs.Ytnifgfnocdffcaa
/- The contracts of the reference: Bit, pow, Mul, Inv, Pow. -/
namespace Go.Proofs.Ytnifgfnocdffcaa
open Go.RowKit

theorem xor_i64 (a b : Nat) (ha : a < 32768) (hb : b < 32768) : bits .xor .i64 (a : Int) (b : Int) = ((a ^^^ b : Nat) : Int) := by
  have h := xor_lt15 ha hb
  show IntKind.i64.wrap ((BitVec.ofInt 64 (a : Int) ^^^ BitVec.ofInt 64 (b : Int)).toNat : Nat) = _
  rw [BitVec.ofInt_natCast, BitVec.ofInt_natCast, BitVec.toNat_xor, BitVec.toNat_ofNat, BitVec.toNat_ofNat, Nat.mod_eq_of_lt (by omega), Nat.mod_eq_of_lt (by omega), IntKind.wrap_i64]
  omega

set_option maxRecDepth 100000 in
set_option maxHeartbeats 1000000 in
theorem rbit_any (n i : Nat) (w : World) (hn : (n : Int) ≤ 9223372036854775807) (hi : i ≤ 62) :
    Calls Try.prog 87 #[.int .i64 (n : Int), .int .i64 (i : Int)] w fun e w' => e = .returned (.int .i64 (n / 2 ^ i % 2 : Nat)) ∧ w = w' := by
  have hq : n / 2 ^ i ≤ 9223372036854775807 := Nat.le_trans (Nat.div_le_self _ _) (by omega)
  have hsh : (n : Int) / 2 ^ i = ((n / 2 ^ i : Nat) : Int) := by simp
  obtain ⟨q, hqq⟩ : ∃ q, n / 2 ^ i = q := ⟨_, rfl⟩
  rw [hqq] at hsh hq
  rw [hqq]
  have hand := and1_i64 q (by omega)
  obtain ⟨r, hr⟩ : ∃ r, q % 2 = r := ⟨_, rfl⟩
  rw [hr] at hand
  rw [hr]
  clear hqq hr
  go_enter Try.func87, Try.ntmps87
  go_wp2
  go_ret
  exact ⟨rfl, rfl⟩
set_option maxRecDepth 100000 in
set_option maxHeartbeats 1000000 in
theorem rpow_any (i : Nat) (w : World) (hi : i ≤ 10) :
    Calls Try.prog 88 #[.int .i64 (i : Int)] w fun e w' => e = .returned (.int .i64 (2 ^ i : Nat)) ∧ w = w' := by
  have hp : 2 ^ i ≤ 2 ^ 10 := Nat.pow_le_pow_right (by omega) hi
  have hw : (2 : Int) ^ i = ((2 ^ i : Nat) : Int) := by simp
  obtain ⟨q, hqq⟩ : ∃ q, 2 ^ i = q := ⟨_, rfl⟩
  rw [hqq] at hw hp
  rw [hqq]
  clear hqq
  have hw2 : IntKind.i64.wrap (q : Int) = (q : Int) := by rw [IntKind.wrap_i64]; omega
  go_enter Try.func88, Try.ntmps88
  go_wp2
  go_ret
  exact ⟨rfl, rfl⟩

theorem longN_bit (a b k : Nat) : longN a b (k + 1) = if b / 2 ^ k % 2 = 1 then longN a b k ^^^ (a * 2 ^ k) else longN a b k := by
  rw [longN, Nat.testBit_eq_decide_div_mod_eq]
  by_cases h : b / 2 ^ k % 2 = 1 <;> simp [h, sel]
theorem leftN_bit (n j : Nat) : leftN n (j + 1) = if leftN n j / 2 ^ (14 - j) % 2 = 1 then leftN n j ^^^ (283 * 2 ^ (6 - j)) else leftN n j := by
  rw [leftN, Nat.testBit_eq_decide_div_mod_eq]
  by_cases h : leftN n j / 2 ^ (14 - j) % 2 = 1 <;> simp [h, sel]

end Go.Proofs.Ytnifgfnocdffcaa
