/- Plain facts on decimal numerals. No program is named here. -/
import Derived.Lib.ItoaNum
import Derived.Lib.Repeat
namespace Dc
open Go.Lib

/-- The last k decimal digits of r. -/
def pad : Nat → Nat → List UInt8
  | 0, _ => []
  | k + 1, r => pad k (r / 10) ++ [UInt8.ofNat (48 + r % 10)]

theorem pad_length : ∀ k r, (pad k r).length = k
  | 0, _ => rfl
  | k + 1, r => by simp [pad, pad_length k]
theorem pad_one (r : Nat) : pad 1 r = [UInt8.ofNat (48 + r % 10)] := rfl
theorem pad_add (a : Nat) : ∀ b r, pad (a + b) r = pad a (r / 10 ^ b) ++ pad b r
  | 0, r => by simp [pad]
  | b + 1, r => by
    rw [← Nat.add_assoc, pad, pad_add a b (r / 10), pad, Nat.div_div_eq_div_mul, Nat.pow_succ, Nat.mul_comm 10, List.append_assoc]
theorem div_mod_pow (k r : Nat) : r % 10 ^ (k + 1) / 10 = r / 10 % 10 ^ k := by
  rw [Nat.pow_succ, Nat.mul_comm, Nat.mod_mul_right_div_self]
theorem pad_mod : ∀ k r, pad k (r % 10 ^ k) = pad k r
  | 0, _ => rfl
  | k + 1, r => by
    rw [pad, pad, div_mod_pow, pad_mod k (r / 10), Nat.pow_succ, Nat.mul_comm, Nat.mod_mul_right_mod]
theorem dec_small {u : Nat} (h : u < 10) : decDigits u = [UInt8.ofNat (48 + u)] := by rw [decDigits, dif_pos h]
theorem dec_big {u : Nat} (h : ¬ u < 10) : decDigits u = decDigits (u / 10) ++ [UInt8.ofNat (48 + u % 10)] := by rw [decDigits, dif_neg h]
theorem dec_split : ∀ k x, 10 ^ k ≤ x → decDigits x = decDigits (x / 10 ^ k) ++ pad k x
  | 0, x, _ => by simp [pad]
  | k + 1, x, h => by
    have hp := Nat.one_le_pow k 10 (by decide)
    have h1 : 10 ^ k ≤ x / 10 := by rw [Nat.pow_succ] at h; omega
    rw [dec_big (by rw [Nat.pow_succ] at h; omega), dec_split k (x / 10) h1, pad, Nat.div_div_eq_div_mul, Nat.pow_succ, Nat.mul_comm 10, List.append_assoc]
theorem pad_zero : ∀ k, pad k 0 = List.replicate k 48
  | 0 => rfl
  | k + 1 => by rw [pad, Nat.zero_div, pad_zero k, List.replicate_succ']; rfl
theorem dec_pad : ∀ k r, r < 10 ^ k → 0 < k → List.replicate (k - nDigits r) 48 ++ decDigits r = pad k r
  | 0, _, _, h => absurd h (by omega)
  | k + 1, r, h, _ => by
    by_cases hr : r < 10
    · rw [nDigits_small hr, dec_small hr, pad, Nat.add_sub_cancel, Nat.div_eq_of_lt hr, pad_zero, Nat.mod_eq_of_lt hr]
    · have hk : 0 < k := by
        rcases Nat.eq_zero_or_pos k with h0 | h0
        · subst h0; simp at h; omega
        · exact h0
      rw [nDigits_big hr, dec_big hr, pad, ← dec_pad k (r / 10) (by rw [Nat.pow_succ] at h; omega) hk, Nat.add_sub_add_right, List.append_assoc]
theorem nDigits_le {r k : Nat} (h : r < 10 ^ k) (hk : 0 < k) : nDigits r ≤ k := by
  have h1 := congrArg List.length (dec_pad k r h hk)
  rw [List.length_append, List.length_replicate, decDigits_length, pad_length] at h1
  omega
theorem repeat_zero (n : Nat) : repeatL [48] n = List.replicate n 48 := by
  have := repeatL_replicate 48 1 n
  simpa using this

/-- The digits of x, the last one first, k of them. -/
def rev (k x : Nat) : List UInt8 := (pad k x).reverse
theorem rev_length (k x : Nat) : (rev k x).length = k := by rw [rev, List.length_reverse, pad_length]
theorem rev_snoc (k x : Nat) : rev (k + 1) x = rev k x ++ [UInt8.ofNat (48 + x / 10 ^ k % 10)] := by
  rw [rev, rev, Nat.add_comm, pad_add, List.reverse_append, pad_one]; rfl
theorem rev_get (k x j : Nat) (h : j < k) : (rev k x)[j]? = some (UInt8.ofNat (48 + x / 10 ^ j % 10)) := by
  induction k with
  | zero => omega
  | succ k ih =>
    rw [rev_snoc]
    by_cases hj : j < k
    · rw [List.getElem?_append_left (by rw [rev_length]; exact hj), ih hj]
    · obtain rfl : j = k := by omega
      rw [List.getElem?_append_right (by rw [rev_length]; exact Nat.le_refl _), rev_length, Nat.sub_self]; rfl
/-- The numeral as a row of k digits, where x has just k digits. -/
theorem dec_eq_pad : ∀ k x, 10 ^ k ≤ x → x < 10 ^ (k + 1) → decDigits x = pad (k + 1) x
  | 0, x, _, h2 => by
    have h : x < 10 := by simpa using h2
    rw [dec_small h, pad_one, Nat.mod_eq_of_lt h]
  | k + 1, x, h1, h2 => by
    have hp := Nat.one_le_pow k 10 (by decide)
    rw [dec_big (by rw [Nat.pow_succ] at h1; omega), dec_eq_pad k (x / 10) (by rw [Nat.pow_succ] at h1; omega) (by rw [Nat.pow_succ] at h2; omega)]
    rfl
theorem dec_zero : decDigits 0 = pad 1 0 := by rw [dec_small (by decide), pad_one]

/-- The value of a row of digits. -/
def val (l : List UInt8) : Nat := l.foldl (fun a c => a * 10 + (c.toNat - 48)) 0
theorem val_snoc (l : List UInt8) (c : UInt8) : val (l ++ [c]) = val l * 10 + (c.toNat - 48) := by simp [val]
theorem val_nil : val [] = 0 := rfl
def isDig (c : UInt8) : Bool := 48 ≤ c.toNat && c.toNat ≤ 57
theorem digit_toNat {d : Nat} (h : d < 10) : (UInt8.ofNat (48 + d)).toNat = 48 + d := by
  rw [UInt8.toNat_ofNat']; omega
theorem isDig_digit {d : Nat} (h : d < 10) : isDig (UInt8.ofNat (48 + d)) = true := by
  unfold isDig; rw [digit_toNat h, Bool.and_eq_true, decide_eq_true_eq, decide_eq_true_eq]; omega
theorem val_dec (x : Nat) : val (decDigits x) = x := by
  induction x using Nat.strongRecOn with
  | _ x ih =>
    by_cases h : x < 10
    · rw [dec_small h]
      show 0 * 10 + ((UInt8.ofNat (48 + x)).toNat - 48) = x
      rw [digit_toNat h]; omega
    · rw [dec_big h, val_snoc, ih (x / 10) (by omega), digit_toNat (by omega)]; omega
theorem dec_isDig (x : Nat) : ∀ c ∈ decDigits x, isDig c = true := by
  induction x using Nat.strongRecOn with
  | _ x ih =>
    by_cases h : x < 10
    · rw [dec_small h]; intro c hc; rw [List.mem_singleton] at hc; subst hc; exact isDig_digit h
    · rw [dec_big h]; intro c hc
      rcases List.mem_append.1 hc with h1 | h1
      · exact ih (x / 10) (by omega) c h1
      · rw [List.mem_singleton] at h1; subst h1; exact isDig_digit (by omega)
theorem dec_ne_nil (x : Nat) : decDigits x ≠ [] := by
  intro h
  have h1 := congrArg List.length h
  rw [decDigits_length] at h1
  have := nDigits_pos x
  simp at h1; omega
theorem fold_eq : ∀ (l : List UInt8) (a : Nat), l.foldl (fun a c => a * 10 + (c.toNat - 48)) a = a * 10 ^ l.length + val l
  | [], a => by simp [val]
  | c :: l, a => by
    rw [val, List.foldl_cons, List.foldl_cons, fold_eq l, fold_eq l, List.length_cons, Nat.pow_succ, Nat.add_mul, Nat.add_mul, Nat.zero_mul, Nat.mul_assoc, Nat.mul_comm 10]
    omega
theorem val_append (a b : List UInt8) : val (a ++ b) = val a * 10 ^ b.length + val b := by
  rw [val, List.foldl_append, fold_eq b]; rfl
theorem val_cons (c : UInt8) (l : List UInt8) : val (c :: l) = (c.toNat - 48) * 10 ^ l.length + val l := by
  rw [val, List.foldl_cons, fold_eq]; simp
theorem val_lt : ∀ (l : List UInt8), (∀ c ∈ l, isDig c = true) → val l < 10 ^ l.length
  | [], _ => by simp [val]
  | c :: l, h => by
    have h1 := val_lt l fun d hd => h d (List.mem_cons_of_mem _ hd)
    have h2 := h c (List.mem_cons_self ..)
    simp only [isDig, Bool.and_eq_true, decide_eq_true_eq] at h2
    rw [val_cons, List.length_cons, Nat.pow_succ]
    have h3 : (c.toNat - 48) * 10 ^ l.length ≤ 9 * 10 ^ l.length := Nat.mul_le_mul_right _ (by omega)
    omega
end Dc
