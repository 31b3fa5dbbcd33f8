/- Bits of numbers and places of a map, in plain numbers: what may be, what is taken, how many, where there is room. Nothing of any function. -/
import Derived.Test.YthknelpcdoebiaaMem
namespace Go.Proofs.Ythknelpcdoebiaa

abbrev Z64 : Nat := 18446744073709551616
abbrev Zfull : Nat := 18446744073709551615
/-- The number of so many bits. -/
def zmk : Nat → (Nat → Bool) → Nat
  | 0, _ => 0
  | n + 1, f => (f 0).toNat + 2 * zmk n (fun j => f (j + 1))
theorem zmk_bit (n : Nat) : ∀ (f : Nat → Bool) (i : Nat), (zmk n f).testBit i = (decide (i < n) && f i) := by
  induction n with
  | zero => intro f i; simp [zmk]
  | succ n ih =>
    intro f i
    rw [zmk]
    cases i with
    | zero =>
      rw [Nat.testBit_zero]
      cases h : f 0
      · simp
      · simp
    | succ i =>
      rw [Nat.testBit_succ]
      have : ((f 0).toNat + 2 * zmk n (fun j => f (j + 1))) / 2 = zmk n (fun j => f (j + 1)) := by
        cases f 0 <;> simp <;> omega
      rw [this, ih]
      simp
theorem zmk_at {n : Nat} (f : Nat → Bool) {i : Nat} (h : i < n) : (zmk n f).testBit i = f i := by rw [zmk_bit]; simp [h]
theorem zmk_lt (n : Nat) : ∀ f : Nat → Bool, zmk n f < 2 ^ n := by
  induction n with
  | zero => intro f; simp [zmk]
  | succ n ih =>
    intro f
    have := ih (fun j => f (j + 1))
    rw [zmk, Nat.pow_succ]
    cases f 0 <;> simp <;> omega
theorem zmk_last (n : Nat) : ∀ f : Nat → Bool, zmk (n + 1) f = zmk n f + (f n).toNat * 2 ^ n := by
  induction n with
  | zero => intro f; simp [zmk]
  | succ n ih =>
    intro f
    rw [zmk, ih (fun j => f (j + 1)), zmk, Nat.pow_succ]
    rw [Nat.mul_add, ← Nat.add_assoc, Nat.mul_comm (2 ^ n) 2, Nat.mul_left_comm]
theorem zbits_ext {n x y : Nat} (hx : x < 2 ^ n) (hy : y < 2 ^ n) (h : ∀ i, i < n → x.testBit i = y.testBit i) : x = y := by
  apply Nat.eq_of_testBit_eq
  intro i
  by_cases hi : i < n
  · exact h i hi
  · rw [Nat.testBit_lt_two_pow (Nat.lt_of_lt_of_le hx (Nat.pow_le_pow_right (by omega) (by omega))), Nat.testBit_lt_two_pow (Nat.lt_of_lt_of_le hy (Nat.pow_le_pow_right (by omega) (by omega)))]
theorem zmk_self {n x : Nat} (h : x < 2 ^ n) : zmk n x.testBit = x := zbits_ext (zmk_lt _ _) h fun i hi => by rw [zmk_at _ hi]
theorem zmk_ext {n : Nat} {f g : Nat → Bool} (h : ∀ i, i < n → f i = g i) : zmk n f = zmk n g := zbits_ext (zmk_lt _ _) (zmk_lt _ _) fun i hi => by rw [zmk_at _ hi, zmk_at _ hi, h i hi]
theorem zmk_drop (m k : Nat) (f : Nat → Bool) : zmk (m + 1) (fun j => f (k + j)) = (f k).toNat + 2 * zmk m (fun j => f (k + 1 + j)) := by
  rw [zmk]
  have : (fun j => f (k + (j + 1))) = fun j => f (k + 1 + j) := by funext j; rw [Nat.add_assoc, Nat.add_comm 1 j]
  rw [this]
  rfl
theorem z64 : Z64 = 2 ^ 64 := by decide
theorem zmk64_lt (f : Nat → Bool) : zmk 64 f < Z64 := zmk_lt 64 f
theorem zword_ext {x y : Nat} (hx : x < Z64) (hy : y < Z64) (h : ∀ i, i < 64 → x.testBit i = y.testBit i) : x = y := zbits_ext (n := 64) hx hy h
theorem zfull_bit {i : Nat} (h : i < 64) : Zfull.testBit i = true := by
  have : Zfull = 2 ^ 64 - 1 := by decide
  rw [this, Nat.testBit_two_pow_sub_one]; simp [h]
theorem zfull_iff {x : Nat} (hx : x < Z64) : x = Zfull ↔ ∀ i, i < 64 → x.testBit i = true := by
  constructor
  · rintro rfl i hi; exact zfull_bit hi
  · intro h; exact zword_ext hx (by decide) fun i hi => by rw [h i hi, zfull_bit hi]

/-- How many of the first so many are. -/
def zcnt : Nat → (Nat → Bool) → Nat
  | 0, _ => 0
  | n + 1, f => zcnt n f + (f n).toNat
theorem zcnt_add (n m : Nat) (f : Nat → Bool) : zcnt (n + m) f = zcnt n f + zcnt m (fun i => f (n + i)) := by
  induction m with
  | zero => rfl
  | succ m ih => rw [← Nat.add_assoc, zcnt, ih, zcnt]; omega
theorem zcnt_ext {n : Nat} {f g : Nat → Bool} (h : ∀ i, i < n → f i = g i) : zcnt n f = zcnt n g := by
  induction n with
  | zero => rfl
  | succ n ih => rw [zcnt, zcnt, ih (fun i hi => h i (by omega)), h n (by omega)]
theorem zcnt_le (n : Nat) (f : Nat → Bool) : zcnt n f ≤ n := by
  induction n with
  | zero => exact Nat.le_refl _
  | succ n ih => rw [zcnt]; have := Bool.toNat_le (f n); omega
theorem zcnt_all {n : Nat} {f : Nat → Bool} (h : ∀ i, i < n → f i = true) : zcnt n f = n := by
  induction n with
  | zero => rfl
  | succ n ih => rw [zcnt, ih (fun i hi => h i (by omega)), h n (by omega)]; rfl
theorem zcnt_none {n : Nat} {f : Nat → Bool} (h : ∀ i, i < n → f i = false) : zcnt n f = 0 := by
  induction n with
  | zero => rfl
  | succ n ih => rw [zcnt, ih (fun i hi => h i (by omega)), h n (by omega)]; rfl
/-- One more. -/
theorem zcnt_put {n k : Nat} {f : Nat → Bool} (hk : k < n) (h : f k = false) : zcnt n (fun i => if i = k then true else f i) = zcnt n f + 1 := by
  induction n with
  | zero => omega
  | succ n ih =>
    rw [zcnt, zcnt]
    by_cases e : k = n
    · subst e
      have : zcnt k (fun i => if i = k then true else f i) = zcnt k f := zcnt_ext fun i hi => by rw [if_neg (by omega)]
      rw [this, if_pos rfl, h]
      rfl
    · rw [ih (by omega), if_neg (by omega)]
      omega

/-- Whether a place of some words is taken. -/
def ztk (L : List Nat) (i : Nat) : Bool := (L.getD (i / 64) 0).testBit (i % 64)
/-- How many words so many places need. -/
def zW (n : Nat) : Nat := (n + 63) / 64
theorem ztk_word (L : List Nat) (w k : Nat) (hk : k < 64) : ztk L (64 * w + k) = (L.getD w 0).testBit k := by
  unfold ztk
  rw [show (64 * w + k) / 64 = w by omega, show (64 * w + k) % 64 = k by omega]
/-- The last word's bits that are no places. -/
def zno (n : Nat) : Nat := zmk 64 (fun j => decide (n ≤ 64 * (zW n - 1) + j))
theorem zno_lt (n : Nat) : zno n < Z64 := zmk64_lt _
theorem zno_tab : ∀ k, k < 64 → Zfull - Zfull / 2 ^ k = zmk 64 (fun j => decide (64 ≤ k + j)) := by decide +kernel
theorem zno_is {n k : Nat} (hn : 1 ≤ n) (hk : zW n * 64 - n = k) : Zfull - Zfull / 2 ^ k = zno n := by
  have h64 : k < 64 := by unfold zW at hk; omega
  rw [zno_tab k h64]
  unfold zno
  refine zmk_ext fun i hi => ?_
  unfold zW at hk ⊢
  congr 1
  apply propext
  omega
/-- A bit for each word that is full. -/
def zfl (L : List Nat) : Nat := zmk L.length (fun w => L.getD w 0 == Zfull)
theorem zfl_lt {L : List Nat} (h : L.length ≤ 64) : zfl L < Z64 := by
  have := zmk_lt L.length (fun w => L.getD w 0 == Zfull)
  exact Nat.lt_of_lt_of_le this (Nat.pow_le_pow_right (by omega) h)

/-- Whether a map may be. -/
def zright (N : Int) (L : List Nat) (F : Nat) : Bool :=
  (decide (1 ≤ N) && decide (N ≤ 4096)) && (decide (L.length = zW N.toNat) && ((L.getD (L.length - 1) 0 &&& zno N.toNat) == zno N.toNat && F == zfl L))
/-- All places are below this. -/
structure ZR (n : Nat) (L : List Nat) (F : Nat) : Prop where
  lo : 1 ≤ n
  hi : n ≤ 4096
  len : L.length = zW n
  out : ∀ i, n ≤ i → i < 64 * L.length → ztk L i = true
  fl : F = zfl L
theorem ZR.len64 {n : Nat} {L : List Nat} {F : Nat} (h : ZR n L F) : 1 ≤ L.length ∧ L.length ≤ 64 ∧ n ≤ 64 * L.length ∧ 64 * L.length < n + 64 := by
  have h1 := h.lo
  have h2 := h.hi
  have h3 := h.len
  unfold zW at h3
  omega
theorem zand_iff {a b : Nat} : (a &&& b) = b ↔ ∀ i, b.testBit i = true → a.testBit i = true := by
  constructor
  · intro h i hi
    have := congrArg (fun x => x.testBit i) h
    simp only [Nat.testBit_and, hi, Bool.and_true] at this
    exact this
  · intro h
    apply Nat.eq_of_testBit_eq
    intro i
    rw [Nat.testBit_and]
    cases hb : b.testBit i
    · simp
    · rw [h i hb]; rfl
theorem zlast_iff {n : Nat} {L : List Nat} (hn : 1 ≤ n) (hl : L.length = zW n) : ((L.getD (L.length - 1) 0 &&& zno n) = zno n) ↔ ∀ i, n ≤ i → i < 64 * L.length → ztk L i = true := by
  have h1 : 1 ≤ L.length := by rw [hl]; unfold zW; omega
  rw [zand_iff]
  constructor
  · intro h i h2 h3
    have e : i = 64 * (L.length - 1) + i % 64 := by
      have : 64 * (L.length - 1) < n := by rw [hl]; unfold zW; omega
      omega
    rw [e, ztk_word _ _ _ (Nat.mod_lt _ (by omega))]
    refine h _ ?_
    unfold zno
    rw [zmk_at _ (Nat.mod_lt _ (by omega)), ← hl, ← e]
    simpa using h2
  · intro h i hi
    unfold zno at hi
    rw [zmk_bit, ← hl] at hi
    simp at hi
    rw [← ztk_word L _ i hi.1]
    exact h _ hi.2 (by omega)
theorem zright_iff {N : Int} {L : List Nat} {F : Nat} : zright N L F = true ↔ ∃ n : Nat, N = (n : Int) ∧ ZR n L F := by
  unfold zright
  simp only [Bool.and_eq_true, decide_eq_true_eq, beq_iff_eq]
  constructor
  · rintro ⟨⟨h1, h2⟩, h3, h4, h5⟩
    have hn : 1 ≤ N.toNat := by omega
    exact ⟨N.toNat, by omega, hn, by omega, h3, (zlast_iff hn h3).1 h4, h5⟩
  · rintro ⟨n, rfl, h⟩
    refine ⟨⟨by have := h.lo; omega, by have := h.hi; omega⟩, ?_⟩
    rw [Int.toNat_natCast]
    exact ⟨h.len, (zlast_iff h.lo h.len).2 h.out, h.fl⟩
theorem zright_mk {n : Nat} {L : List Nat} {F : Nat} (h : ZR n L F) : zright (n : Int) L F = true := zright_iff.2 ⟨n, rfl, h⟩

/-- A place's bit told anew. -/
def zput (x j : Nat) (b : Bool) : Nat := zmk 64 (fun t => if t = j then b else x.testBit t)
theorem zput_lt (x j : Nat) (b : Bool) : zput x j b < Z64 := zmk64_lt _
theorem zput_bit (x j : Nat) (b : Bool) {t : Nat} (h : t < 64) : (zput x j b).testBit t = if t = j then b else x.testBit t := zmk_at _ h
theorem zput_or {x j : Nat} (hx : x < Z64) (hj : j < 64) : x ||| 2 ^ j = zput x j true := by
  refine zword_ext (Nat.or_lt_two_pow (n := 64) hx (Nat.pow_lt_pow_right (by omega) hj)) (zput_lt _ _ _) fun i hi => ?_
  rw [Nat.testBit_or, zput_bit _ _ _ hi, Nat.testBit_two_pow]
  by_cases h : i = j
  · subst h; simp
  · have : ¬ j = i := fun e => h e.symm
    simp [h, this]
theorem zput_clear {x j : Nat} (hx : x < Z64) (hj : j < 64) : x &&& (Zfull - 2 ^ j) = zput x j false := by
  refine zword_ext (Nat.lt_of_le_of_lt Nat.and_le_left hx) (zput_lt _ _ _) fun i hi => ?_
  have e : Zfull - 2 ^ j = 2 ^ 64 - (2 ^ j + 1) := by
    have : Zfull = 2 ^ 64 - 1 := by decide
    rw [this]; omega
  rw [Nat.testBit_and, zput_bit _ _ _ hi, e, Nat.testBit_two_pow_sub_succ (Nat.pow_lt_pow_right (by omega) hj), Nat.testBit_two_pow]
  by_cases h : i = j
  · subst h; simp
  · have : ¬ j = i := fun e => h e.symm
    simp [h, this, hi]
/-- A map's words with a place told anew. -/
def zset (L : List Nat) (i : Nat) (b : Bool) : List Nat := L.set (i / 64) (zput (L.getD (i / 64) 0) (i % 64) b)
theorem zset_len (L : List Nat) (i : Nat) (b : Bool) : (zset L i b).length = L.length := List.length_set ..
theorem zget_set (L : List Nat) (k j x : Nat) (hk : k < L.length) : (L.set k x).getD j 0 = if j = k then x else L.getD j 0 := by
  by_cases h : j = k
  · subst h; rw [if_pos rfl]; simp [List.getD, hk]
  · have : ¬ k = j := fun e => h e.symm
    rw [if_neg h]; simp [List.getD, this]
theorem ztk_set {L : List Nat} {i : Nat} (b : Bool) (hi : i < 64 * L.length) (j : Nat) : ztk (zset L i b) j = if j = i then b else ztk L j := by
  unfold ztk zset
  rw [zget_set _ _ _ _ (by omega)]
  by_cases h : j / 64 = i / 64
  · rw [if_pos h, zput_bit _ _ _ (Nat.mod_lt _ (by omega)), h]
    by_cases h2 : j = i
    · subst h2; simp
    · have : ¬ j % 64 = i % 64 := by omega
      rw [if_neg h2, if_neg this]
  · have : ¬ j = i := by rintro rfl; exact h rfl
    rw [if_neg h, if_neg this]
theorem zset_lt {L : List Nat} (h : ∀ x ∈ L, x < Z64) (i : Nat) (b : Bool) : ∀ x ∈ zset L i b, x < Z64 := by
  intro x hx
  rcases List.mem_or_eq_of_mem_set hx with h1 | h1
  · exact h x h1
  · rw [h1]; exact zput_lt _ _ _
theorem ZR.set {n : Nat} {L : List Nat} {F : Nat} (h : ZR n L F) {i : Nat} (hi : i < n) (b : Bool) : ZR n (zset L i b) (zfl (zset L i b)) := by
  have h6 := h.len64
  refine ⟨h.lo, h.hi, by rw [zset_len]; exact h.len, fun j h1 h2 => ?_, rfl⟩
  rw [zset_len] at h2
  rw [ztk_set b (by omega), if_neg (by omega)]
  exact h.out j h1 h2
/-- How many are taken. -/
def zcount (n : Nat) (L : List Nat) : Nat := zcnt n (ztk L)
theorem zcount_put {n : Nat} {L : List Nat} {F : Nat} (h : ZR n L F) {i : Nat} (hi : i < n) (hf : ztk L i = false) : zcount n (zset L i true) = zcount n L + 1 := by
  have h6 := h.len64
  unfold zcount
  rw [← zcnt_put hi hf]
  exact zcnt_ext fun j _ => ztk_set true (by omega) j
theorem getD_lt {L : List Nat} (h : ∀ x ∈ L, x < Z64) (i : Nat) : L.getD i 0 < Z64 := by
  by_cases hi : i < L.length
  · have e : L.getD i 0 = L[i] := by simp [List.getD, hi]
    rw [e]; exact h _ (List.getElem_mem _)
  · rw [List.getD, List.getElem?_eq_none (by omega)]
    decide
/-- A full word's places are taken. -/
theorem zfl_bit {L : List Nat} {F : Nat} {n : Nat} (h : ZR n L F) {w : Nat} (hw : w < L.length) : F.testBit w = (L.getD w 0 == Zfull) := by
  rw [h.fl]
  unfold zfl
  rw [zmk_at _ hw]
theorem zfull_tk {L : List Nat} {i j : Nat} (h : L.getD (i / 64) 0 = Zfull) (hj : j / 64 = i / 64) : ztk L j = true := by
  unfold ztk
  rw [hj, h, zfull_bit (Nat.mod_lt _ (by omega))]

/-- The first place with room for so many; -1: there is none. -/
def zfind (n : Nat) (f : Nat → Bool) (many : Nat) : Option Nat := (List.range n).find? fun s => decide (s + many ≤ n) && (List.range many).all fun j => !f (s + j)
theorem zfind_some {n many s : Nat} {f : Nat → Bool} (hm : 1 ≤ many) (h1 : s + many ≤ n) (h2 : ∀ j, j < many → f (s + j) = false) (h3 : ∀ t, t < s → ∃ j, j < many ∧ f (t + j) = true) : zfind n f many = some s := by
  unfold zfind
  rw [List.find?_range_eq_some]
  refine ⟨?_, ?_, ?_⟩
  · simp only [Bool.and_eq_true, decide_eq_true_eq, List.all_eq_true, List.mem_range, Bool.not_eq_true']
    exact ⟨h1, h2⟩
  · simp; omega
  · intro t ht
    obtain ⟨j, hj, hf⟩ := h3 t ht
    simp only [Bool.not_eq_true', Bool.and_eq_false_iff, List.all_eq_false, List.mem_range]
    exact .inr ⟨j, hj, by simp [hf]⟩
theorem zfind_none {n many : Nat} {f : Nat → Bool} (h3 : ∀ t, t + many ≤ n → ∃ j, j < many ∧ f (t + j) = true) : zfind n f many = none := by
  unfold zfind
  rw [List.find?_eq_none]
  intro t ht
  simp only [Bool.and_eq_true, decide_eq_true_eq, List.all_eq_true, List.mem_range, Bool.not_eq_true', not_and]
  intro h1 h2
  obtain ⟨j, hj, hf⟩ := h3 t h1
  rw [h2 j hj] at hf
  cases hf
theorem zfind_is {n many s : Nat} {f : Nat → Bool} (h : zfind n f many = some s) : s + many ≤ n ∧ ∀ j, j < many → f (s + j) = false := by
  have := List.find?_some h
  simp only [Bool.and_eq_true, decide_eq_true_eq, List.all_eq_true, List.mem_range, Bool.not_eq_true'] at this
  exact this

/-- .. none of the first so many begins with room. -/
def zblocked (n : Nat) (f : Nat → Bool) (many k : Nat) : Prop := ∀ t, t < k → t + many ≤ n → ∃ j, j < many ∧ f (t + j) = true
theorem zblocked_taken {n many k i : Nat} {f : Nat → Bool} (h : zblocked n f many k) (hi : f i = true) (h2 : i < k + many) : zblocked n f many (i + 1) := by
  intro t ht hn
  by_cases hk : t < k
  · exact h t hk hn
  · exact ⟨i - t, by omega, by rw [show t + (i - t) = i by omega]; exact hi⟩
theorem zblocked_word {n many k i : Nat} {L : List Nat} (h : zblocked n (ztk L) many k) (hm : 1 ≤ many) (hf : L.getD (i / 64) 0 = Zfull) (h2 : i < k + many) : zblocked n (ztk L) many (64 * (i / 64) + 63 + 1) := by
  intro t ht hn
  by_cases hk : t < k
  · exact h t hk hn
  · by_cases ht2 : t ≤ i
    · exact ⟨i - t, by omega, by rw [show t + (i - t) = i by omega]; exact zfull_tk hf rfl⟩
    · exact ⟨0, by omega, zfull_tk hf (by omega)⟩
theorem zblocked_none {n many k : Nat} {f : Nat → Bool} (h : zblocked n f many k) (hk : n < k + many) : zfind n f many = none :=
  zfind_none fun t ht => h t (by omega) ht
theorem zblocked_some {n many k : Nat} {f : Nat → Bool} (h : zblocked n f many k) (hm : 1 ≤ many) (hk : k + many ≤ n) (hfree : ∀ t, k ≤ t → t < k + many → f t = false) : zfind n f many = some k :=
  zfind_some hm hk (fun j hj => hfree _ (by omega) (by omega)) fun t ht => h t ht (by omega)

/-- A new map's words. -/
def znew (n : Nat) : List Nat := (List.range (zW n)).map fun w => zmk 64 fun k => decide (n ≤ 64 * w + k)
theorem znew_len (n : Nat) : (znew n).length = zW n := by simp [znew]
theorem znew_at {n w : Nat} (h : w < zW n) : (znew n).getD w 0 = zmk 64 fun k => decide (n ≤ 64 * w + k) := by simp [znew, List.getD, h]
theorem znew_lt (n : Nat) : ∀ x ∈ znew n, x < Z64 := by
  intro x hx
  obtain ⟨w, _, rfl⟩ := List.mem_map.1 hx
  exact zmk64_lt _
theorem znew_tk {n i : Nat} (h : i < 64 * zW n) : ztk (znew n) i = decide (n ≤ i) := by
  unfold ztk
  rw [znew_at (by omega), zmk_at _ (Nat.mod_lt _ (by omega)), Nat.div_add_mod]
theorem znew_zero {n w : Nat} (h : w + 1 < zW n) : (znew n).getD w 0 = 0 := by
  rw [znew_at (by omega)]
  refine zword_ext (zmk64_lt _) (by decide) fun i hi => ?_
  rw [zmk_at _ hi, Nat.zero_testBit]
  unfold zW at h
  simp
  omega
theorem znew_last {n : Nat} (hn : 1 ≤ n) : (znew n).getD (zW n - 1) 0 = zno n := by
  have : 1 ≤ zW n := by unfold zW; omega
  rw [znew_at (by omega)]
  rfl
theorem znew_fl {n : Nat} (hn : 1 ≤ n) (h2 : n ≤ 4096) : zfl (znew n) = 0 := by
  have hlt : zfl (znew n) < Z64 := zfl_lt (by rw [znew_len]; unfold zW; omega)
  refine zword_ext hlt (by decide) fun i hi => ?_
  unfold zfl
  rw [zmk_bit, Nat.zero_testBit, znew_len]
  by_cases h : i < zW n
  · have hb : ¬ (znew n).getD i 0 = Zfull := by
      intro e
      have h5 := (zfull_iff (getD_lt (znew_lt n) i)).1 e 0 (by omega)
      rw [znew_at h, zmk_at _ (by omega)] at h5
      unfold zW at h
      simp at h5
      omega
    simp [h]
    exact hb
  · simp [h]
theorem znew_right {n : Nat} (hn : 1 ≤ n) (h2 : n ≤ 4096) : ZR n (znew n) 0 := by
  refine ⟨hn, h2, znew_len n, fun i h3 h4 => ?_, (znew_fl hn h2).symm⟩
  rw [znew_len] at h4
  rw [znew_tk h4]
  simpa using h3
theorem znew_list {n : Nat} (hn : 1 ≤ n) : znew n = (List.replicate (zW n) 0).set (zW n - 1) (zno n) := by
  have h1 : 1 ≤ zW n := by unfold zW; omega
  apply List.ext_getElem
  · simp [znew_len]
  · intro i h2 h3
    rw [znew_len] at h2
    have e : (znew n)[i]'(by rw [znew_len]; exact h2) = (znew n).getD i 0 := by simp [List.getD, znew_len, h2]
    rw [e, List.getElem_set]
    by_cases h : zW n - 1 = i
    · rw [if_pos h, ← h, znew_last hn]
    · rw [if_neg h, znew_zero (by omega)]
      simp
end Go.Proofs.Ythknelpcdoebiaa
