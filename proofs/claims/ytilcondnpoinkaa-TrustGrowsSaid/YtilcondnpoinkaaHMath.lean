/- SHA-256 in plain numbers and lists: nothing of the program. -/
import Derived.Below
namespace Go.Proofs.Ytilcondnpoinkaa

/-- A word turned right. -/
def ror (w n : Nat) : Nat := (w / 2 ^ n) ||| (w * 2 ^ (32 - n) % 4294967296)
def W32 (x : Nat) : Prop := x < 4294967296
def Words (L : List Nat) : Prop := ∀ x ∈ L, x < 4294967296

theorem ror_lt (w n : Nat) (h : w < 4294967296) : ror w n < 4294967296 := by
  have h1 : w / 2 ^ n < 2 ^ 32 := Nat.lt_of_le_of_lt (Nat.div_le_self _ _) (by omega)
  have h2 : w * 2 ^ (32 - n) % 4294967296 < 2 ^ 32 := Nat.mod_lt _ (by omega)
  exact Nat.or_lt_two_pow h1 h2
theorem xor_lt {a b : Nat} (h : a < 4294967296) (k : b < 4294967296) : a ^^^ b < 4294967296 := Nat.xor_lt_two_pow (n := 32) h k
theorem and_lt {a b : Nat} (h : a < 4294967296) : a &&& b < 4294967296 := Nat.lt_of_le_of_lt Nat.and_le_left h

def bigE (e : Nat) : Nat := ror e 6 ^^^ ror e 11 ^^^ ror e 25
def bigA (a : Nat) : Nat := ror a 2 ^^^ ror a 13 ^^^ ror a 22
def choice (e f g : Nat) : Nat := (e &&& f) ^^^ ((4294967295 - e) &&& g)
def major (a b c : Nat) : Nat := (a &&& b) ^^^ (a &&& c) ^^^ (b &&& c)
/-- T1 and T2. -/
def tOne (e f g h k w : Nat) : Nat := (h + bigE e + choice e f g + k + w) % 4294967296
def tTwo (a b c : Nat) : Nat := (bigA a + major a b c) % 4294967296
/-- A state behind one round. -/
def roundL (a b c d e f g h k w : Nat) : List Nat := [(tOne e f g h k w + tTwo a b c) % 4294967296, a, b, c, (d + tOne e f g h k w) % 4294967296, e, f, g]
theorem bigE_lt (e : Nat) (h : e < 4294967296) : bigE e < 4294967296 := xor_lt (xor_lt (ror_lt _ _ h) (ror_lt _ _ h)) (ror_lt _ _ h)
theorem bigA_lt (e : Nat) (h : e < 4294967296) : bigA e < 4294967296 := xor_lt (xor_lt (ror_lt _ _ h) (ror_lt _ _ h)) (ror_lt _ _ h)
theorem choice_lt {e f g : Nat} (h : e < 4294967296) : choice e f g < 4294967296 := xor_lt (and_lt h) (and_lt (by omega))
theorem major_lt {a b c : Nat} (h : a < 4294967296) (k : b < 4294967296) : major a b c < 4294967296 := xor_lt (xor_lt (and_lt h) (and_lt h)) (and_lt k)

/-- A word of a row, by its place. -/
def wn (L : List Nat) (j : Nat) : Nat := L.getD j 0
def sigO (x : Nat) : Nat := ror x 7 ^^^ ror x 18 ^^^ (x / 8)
def sigI (x : Nat) : Nat := ror x 17 ^^^ ror x 19 ^^^ (x / 1024)
/-- A block's word, by its place. -/
def wordAt (b : List UInt8) (t : Nat) : Nat := (b.getD (4 * t) 0).toNat * 16777216 + (b.getD (4 * t + 1) 0).toNat * 65536 + (b.getD (4 * t + 2) 0).toNat * 256 + (b.getD (4 * t + 3) 0).toNat
/-- The word behind the words so far. -/
def nextW (W : List Nat) (t : Nat) : Nat := (sigI (wn W (t - 2)) + wn W (t - 7) + sigO (wn W (t - 15)) + wn W (t - 16)) % 4294967296
/-- A block's first words. -/
def sched (b : List UInt8) : Nat → List Nat
  | 0 => []
  | t + 1 => sched b t ++ [if t < 16 then wordAt b t else nextW (sched b t) t]
theorem sched_len (b : List UInt8) (t : Nat) : (sched b t).length = t := by
  induction t with
  | zero => rfl
  | succ t ih => rw [sched, List.length_append, ih]; rfl
theorem wordAt_lt (b : List UInt8) (t : Nat) : wordAt b t < 4294967296 := by
  unfold wordAt
  have h0 := (b.getD (4 * t) 0).toNat_lt
  have h1 := (b.getD (4 * t + 1) 0).toNat_lt
  have h2 := (b.getD (4 * t + 2) 0).toNat_lt
  have h3 := (b.getD (4 * t + 3) 0).toNat_lt
  omega
theorem sched_lt (b : List UInt8) (t : Nat) : ∀ x ∈ sched b t, x < 4294967296 := by
  induction t with
  | zero => intro x hx; cases hx
  | succ t ih =>
    intro x hx
    rw [sched] at hx
    rcases List.mem_append.1 hx with h | h
    · exact ih x h
    · rw [List.mem_singleton.1 h]
      split
      · exact wordAt_lt b t
      · exact Nat.mod_lt _ (by omega)
theorem wn_lt {L : List Nat} (h : ∀ x ∈ L, x < 4294967296) (j : Nat) : wn L j < 4294967296 := by
  unfold wn
  rw [List.getD]
  cases hj : L[j]? with
  | none => simp
  | some x => exact h x (List.mem_of_getElem? hj)
theorem sigO_lt (x : Nat) (h : x < 4294967296) : sigO x < 4294967296 := xor_lt (xor_lt (ror_lt _ _ h) (ror_lt _ _ h)) (Nat.lt_of_le_of_lt (Nat.div_le_self _ _) h)
theorem sigI_lt (x : Nat) (h : x < 4294967296) : sigI x < 4294967296 := xor_lt (xor_lt (ror_lt _ _ h) (ror_lt _ _ h)) (Nat.lt_of_le_of_lt (Nat.div_le_self _ _) h)
end Go.Proofs.Ytilcondnpoinkaa
