/- Numbers' bytes, in plain lists: nothing of the program. -/
import Derived.Below
import GoSem.Op.String
namespace Go.Proofs.Ytilcondnpoinkaa

/-- A number's lowest bytes, the lowest first. -/
def low : Nat → Nat → List UInt8
  | _, 0 => []
  | n, k + 1 => UInt8.ofNat (n % 256) :: low (n / 256) k
/-- The number that bytes tell. -/
def val : List UInt8 → Nat
  | [] => 0
  | b :: l => b.toNat + 256 * val l

theorem low_length (n k : Nat) : (low n k).length = k := by
  induction k generalizing n with
  | zero => rfl
  | succ k ih => simp [low, ih]
theorem ofNat_toNat_mod (n : Nat) : (UInt8.ofNat (n % 256)).toNat = n % 256 := by
  simp
theorem val_low (n k : Nat) : val (low n k) = n % 256 ^ k := by
  induction k generalizing n with
  | zero => simp [low, val, Nat.mod_one]
  | succ k ih =>
    rw [low, val, ih, ofNat_toNat_mod, Nat.pow_succ, Nat.mul_comm (256 ^ k) 256, Nat.mod_mul]
theorem val_lt (l : List UInt8) : val l < 256 ^ l.length := by
  induction l with
  | nil => simp [val]
  | cons b l ih =>
    have hb := b.toNat_lt
    simp only [val, List.length_cons, Nat.pow_succ]
    omega
theorem low_val (l : List UInt8) : low (val l) l.length = l := by
  induction l with
  | nil => rfl
  | cons b l ih =>
    have hb := b.toNat_lt
    simp only [val, List.length_cons, low]
    have h1 : (b.toNat + 256 * val l) % 256 = b.toNat := by omega
    have h2 : (b.toNat + 256 * val l) / 256 = val l := by omega
    rw [h1, h2, ih]
    simp
theorem low_snoc (n k : Nat) : low n (k + 1) = low n k ++ [UInt8.ofNat (n / 256 ^ k % 256)] := by
  induction k generalizing n with
  | zero => simp [low]
  | succ k ih =>
    rw [low, ih (n / 256), low]
    simp [Nat.div_div_eq_div_mul, Nat.pow_succ, Nat.mul_comm]
theorem val_snoc (l : List UInt8) (b : UInt8) : val (l ++ [b]) = val l + 256 ^ l.length * b.toNat := by
  induction l with
  | nil => simp [val]
  | cons c l ih =>
    simp only [List.cons_append, val, ih, List.length_cons, Nat.pow_succ]
    rw [Nat.mul_add, Nat.mul_comm (256 ^ l.length) 256, Nat.mul_assoc, Nat.add_assoc]
theorem val_append (l m : List UInt8) : val (l ++ m) = val l + 256 ^ l.length * val m := by
  induction l with
  | nil => simp [val]
  | cons c l ih =>
    simp only [List.cons_append, val, ih, List.length_cons, Nat.pow_succ]
    rw [Nat.mul_add, Nat.mul_comm (256 ^ l.length) 256, Nat.mul_assoc, Nat.add_assoc]
theorem low_inj {n m k : Nat} (hn : n < 256 ^ k) (hm : m < 256 ^ k) (h : low n k = low m k) : n = m := by
  have := congrArg val h
  rw [val_low, val_low, Nat.mod_eq_of_lt hn, Nat.mod_eq_of_lt hm] at this
  exact this

theorem mod_pow_succ (n k : Nat) : n % 256 ^ (k + 1) = n % 256 ^ k + 256 ^ k * (n / 256 ^ k % 256) := by
  rw [Nat.pow_succ, Nat.mod_mul]
theorem ofNat_lt (a b : Nat) : (UInt8.ofNat (a % 256) < UInt8.ofNat (b % 256)) ↔ a % 256 < b % 256 := by
  rw [UInt8.lt_iff_toNat_lt, ofNat_toNat_mod, ofNat_toNat_mod]
theorem ofNat_eq (a b : Nat) : (UInt8.ofNat (a % 256) = UInt8.ofNat (b % 256)) ↔ a % 256 = b % 256 := by
  rw [← UInt8.toNat_inj, ofNat_toNat_mod, ofNat_toNat_mod]
theorem less_low (n m k : Nat) : Op.bytesLess (low n k).reverse (low m k).reverse = decide (n % 256 ^ k < m % 256 ^ k) := by
  induction k with
  | zero => simp [low, Op.bytesLess, Nat.mod_one]
  | succ k ih =>
    rw [low_snoc, low_snoc, List.reverse_append, List.reverse_append]
    simp only [List.reverse_cons, List.reverse_nil, List.nil_append, List.singleton_append, Op.bytesLess, ih]
    rw [mod_pow_succ n k, mod_pow_succ m k]
    have hn : n % 256 ^ k < 256 ^ k := Nat.mod_lt _ (Nat.pow_pos (by omega))
    have hm : m % 256 ^ k < 256 ^ k := Nat.mod_lt _ (Nat.pow_pos (by omega))
    generalize 256 ^ k = K at hn hm ⊢
    have e1 := ofNat_lt (n / K) (m / K)
    have e2 := ofNat_eq (n / K) (m / K)
    generalize n / K % 256 = a at e1 e2 ⊢
    generalize m / K % 256 = b at e1 e2 ⊢
    generalize n % K = x at hn ⊢
    generalize m % K = y at hm ⊢
    rw [Bool.eq_iff_iff]
    simp only [Bool.or_eq_true, Bool.and_eq_true, decide_eq_true_eq, beq_iff_eq, e1, e2]
    rcases Nat.lt_trichotomy a b with h | h | h
    · have : K * (a + 1) ≤ K * b := Nat.mul_le_mul_left K h
      rw [Nat.mul_add] at this
      omega
    · subst h; omega
    · have : K * (b + 1) ≤ K * a := Nat.mul_le_mul_left K h
      rw [Nat.mul_add] at this
      omega
theorem same_low {n m : Nat} (hn : n < 256 ^ 8) (hm : m < 256 ^ 8) : ((low n 8).reverse == (low m 8).reverse) = decide (n = m) := by
  rw [Bool.eq_iff_iff]
  simp only [beq_iff_eq, decide_eq_true_eq, List.reverse_inj]
  exact ⟨low_inj hn hm, fun h => by rw [h]⟩
end Go.Proofs.Ytilcondnpoinkaa
