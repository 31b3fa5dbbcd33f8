/- Blocks, words and keys in plain lists of bytes: nothing of the program. -/
import Derived.Test.YtodolffolbkaaaaAMem
namespace Go.Proofs.Ytodolffolbkaaaa

/-- A byte's box, product, and a power of 2. -/
def box8 (b : UInt8) : UInt8 := UInt8.ofNat (box b.toNat)
def mul8 (a b : UInt8) : UInt8 := UInt8.ofNat (cm a.toNat b.toNat)
def pw8 (n : Nat) : UInt8 := UInt8.ofNat (pw 2 n)
theorem ofNat_nat {n : Nat} (h : n < 256) : (UInt8.ofNat n).toNat = n := by simp; omega
theorem box8_nat (b : UInt8) : (box8 b).toNat = box b.toNat := ofNat_nat (box_lt b.toNat_lt)
theorem mul8_nat (a b : UInt8) : (mul8 a b).toNat = cm a.toNat b.toNat := ofNat_nat (cm_lt _ a.toNat_lt)
theorem pw8_nat (n : Nat) : (pw8 n).toNat = pw 2 n := ofNat_nat (pw_lt (by omega) n)
theorem box8_inj {a b : UInt8} (h : box8 a = box8 b) : a = b := by
  apply UInt8.toNat_inj.1
  exact box_inj a.toNat_lt b.toNat_lt (by rw [← box8_nat, ← box8_nat, h])
theorem boxT_at (b : UInt8) : ((boxT.map bv).toArray)[b.toNat]? = some (uv (box8 b)) := by
  have hl : boxT.length = 256 := by decide +kernel
  have hb := b.toNat_lt
  have h1 : (box8 b).toNat = boxT.getD b.toNat 0 := box8_nat b
  generalize boxT = T at hl h1
  have this : T[b.toNat]'(by omega) = (box8 b).toNat := by rw [h1]; simp [List.getD, hl, hb]
  simp [hl, hb, this, bv]

def mixB (a b c d : UInt8) : UInt8 := mul8 a 2 ^^^ mul8 b 3 ^^^ c ^^^ d
def xorW (A B : List UInt8) : List UInt8 := tab 4 fun i => ub A i ^^^ ub B i
def boxW (A : List UInt8) : List UInt8 := tab 4 fun i => box8 (ub A i)
def mixW (A : List UInt8) : List UInt8 := tab 4 fun r => mixB (ub A r) (ub A ((r + 1) % 4)) (ub A ((r + 2) % 4)) (ub A ((r + 3) % 4))
/-- A block's column, or a key's word. -/
def colG (G : List UInt8) (c : Nat) : List UInt8 := tab 4 fun r => ub G (4 * c + r)
def boxG (G : List UInt8) : List UInt8 := tab 16 fun i => box8 (ub G i)
def turnG (G : List UInt8) : List UInt8 := tab 16 fun i => ub G (4 * ((i / 4 + i % 4) % 4) + i % 4)
def mixG (G : List UInt8) : List UInt8 := tab 16 fun i => ub (mixW (colG G (i / 4))) (i % 4)
def keyG (G K : List UInt8) : List UInt8 := tab 16 fun i => ub G i ^^^ ub K i
theorem boxG_len (G : List UInt8) : (boxG G).length = 16 := tab_len _ _
theorem turnG_len (G : List UInt8) : (turnG G).length = 16 := tab_len _ _
theorem mixG_len (G : List UInt8) : (mixG G).length = 16 := tab_len _ _
theorem keyG_len (G K : List UInt8) : (keyG G K).length = 16 := tab_len _ _

/-- The word ahead of word i, as word i is made of it. -/
def scrW (W : List UInt8) (i own : Nat) : List UInt8 :=
  if i % own = 0 then [box8 (ub W 1) ^^^ pw8 (i / own - 1), box8 (ub W 2), box8 (ub W 3), box8 (ub W 0)]
  else if own = 8 ∧ i % own = 4 then boxW W else W
def nextW (F : List UInt8) (i own : Nat) : List UInt8 := xorW (colG F (i - own)) (scrW (colG F (i - 1)) i own)
/-- A key's bytes, and so many words behind them. -/
def kwN (key : List UInt8) (own : Nat) : Nat → List UInt8
  | 0 => key
  | j + 1 => kwN key own j ++ nextW (kwN key own j) (own + j) own
theorem nextW_len (F : List UInt8) (i own : Nat) : (nextW F i own).length = 4 := tab_len _ _
theorem kwN_len (key : List UInt8) (own : Nat) (h : key.length = 4 * own) (j : Nat) : (kwN key own j).length = 4 * (own + j) := by
  induction j with
  | zero => exact h
  | succ j ih => rw [kwN, List.length_append, ih, nextW_len]; omega
/-- All of a key's round keys, one behind the other. -/
def keysF (key : List UInt8) : List UInt8 := kwN key (key.length / 4) (3 * (key.length / 4) + 28)
def keyAt (F : List UInt8) (i : Nat) : List UInt8 := tab 16 fun j => ub F (16 * i + j)
def roundE (last : Nat) (F s : List UInt8) (i : Nat) : List UInt8 :=
  if i = 0 then keyG s (keyAt F 0)
  else if i = last then keyG (turnG (boxG s)) (keyAt F i)
  else keyG (mixG (turnG (boxG s))) (keyAt F i)
def encN (last : Nat) (F s : List UInt8) : Nat → List UInt8
  | 0 => s
  | k + 1 => roundE last F (encN last F s k) k
def encL (key block : List UInt8) : List UInt8 := encN (key.length / 4 + 6) (keysF key) block (key.length / 4 + 7)
theorem roundE_len (last : Nat) (F s : List UInt8) (i : Nat) : (roundE last F s i).length = 16 := by
  unfold roundE
  split
  · exact keyG_len _ _
  · split <;> exact keyG_len _ _
theorem encN_len (last : Nat) (F s : List UInt8) (h : s.length = 16) (k : Nat) : (encN last F s k).length = 16 := by
  cases k with
  | zero => exact h
  | succ k => exact roundE_len _ _ _ _
theorem keysF_len (key : List UInt8) (h : key.length = 16 ∨ key.length = 32) : (keysF key).length = 16 * (key.length / 4 + 7) := by
  rw [keysF, kwN_len _ _ (by omega)]
  omega
end Go.Proofs.Ytodolffolbkaaaa
