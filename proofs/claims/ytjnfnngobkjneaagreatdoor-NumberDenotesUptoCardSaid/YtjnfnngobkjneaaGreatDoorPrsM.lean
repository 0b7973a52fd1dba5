/- Plain facts on the texts of numbers: which are one, and what they denote. No program is named here. -/
import Derived.Test.YtjnfnngobkjneaaGreatDoorDecM
namespace Dc
open Go.Lib

/-- How many digits a text begins with. -/
def dn (l : List UInt8) : Nat := (l.takeWhile isDig).length
theorem dn_le (l : List UInt8) : dn l ≤ l.length := (List.takeWhile_prefix isDig).length_le
theorem take_dn : ∀ l : List UInt8, l.take (dn l) = l.takeWhile isDig
  | [] => rfl
  | c :: l => by
    unfold dn
    rw [List.takeWhile_cons]
    split
    · rw [List.length_cons, List.take_succ_cons]
      exact congrArg (c :: ·) (take_dn l)
    · rfl
theorem take_dn_dig (l : List UInt8) : ∀ c ∈ l.take (dn l), isDig c = true := by
  rw [take_dn]
  induction l with
  | nil => intro c hc; simp at hc
  | cons a l ih =>
    rw [List.takeWhile_cons]
    split
    · intro c hc
      rcases List.mem_cons.1 hc with h | h
      · subst h; assumption
      · exact ih c h
    · intro c hc; simp at hc
/-- Where the digits end. -/
theorem dn_eq : ∀ (l : List UInt8) (k : Nat), (∀ j (h : j < l.length), j < k → isDig l[j] = true) → k ≤ l.length → (∀ h : k < l.length, isDig l[k] = false) → dn l = k
  | [], k, _, hk, _ => by simp at hk; subst hk; rfl
  | c :: l, 0, _, _, h2 => by
    have h3 := h2 (by simp)
    simp only [List.getElem_cons_zero] at h3
    unfold dn
    rw [List.takeWhile_cons, if_neg (by rw [h3]; decide)]; rfl
  | c :: l, k + 1, h1, hk, h2 => by
    have h3 := h1 0 (by simp) (by omega)
    simp only [List.getElem_cons_zero] at h3
    have ih := dn_eq l k (fun j h hj => by have := h1 (j + 1) (by simpa using h) (by omega); simpa using this) (by simpa using hk) (fun h => by have := h2 (by simpa using h); simpa using this)
    unfold dn at ih ⊢
    rw [List.takeWhile_cons, if_pos h3, List.length_cons, ih]

/-- The numerator and the denominator of a text without a sign. -/
def rat (l : List UInt8) : Option (Nat × Nat) :=
  if dn l = 0 then none
  else match l.drop (dn l) with
  | [] => some (val (l.take (dn l)), 1)
  | c :: more =>
    if more = [] ∨ dn more ≠ more.length then none
    else if c = 46 then some (val (l.take (dn l) ++ more), 10 ^ more.length)
    else if c = 47 then some (val (l.take (dn l)), val more)
    else none

/-- A text begins with a sign; what is behind it. -/
def neg? (l : List UInt8) : Bool := l.head? == some 45
def body (l : List UInt8) : List UInt8 := if neg? l then l.drop 1 else l
theorem neg_nil : neg? [] = false := rfl
theorem neg_cons (c : UInt8) (l : List UInt8) : neg? (c :: l) = (c == 45) := rfl
theorem body_le (l : List UInt8) : (body l).length ≤ l.length := by
  unfold body; split
  · rw [List.length_drop]; omega
  · exact Nat.le_refl _

theorem dn_all {l : List UInt8} (h : ∀ c ∈ l, isDig c = true) : dn l = l.length :=
  dn_eq l l.length (fun _ hj _ => h _ (List.getElem_mem hj)) (Nat.le_refl _) (fun h => absurd h (Nat.lt_irrefl _))
theorem all_of_dn {l : List UInt8} (h : dn l = l.length) : ∀ c ∈ l, isDig c = true := by
  have h1 := take_dn_dig l
  rw [h, List.take_length] at h1
  exact h1
theorem dn_append {l : List UInt8} {c : UInt8} {m : List UInt8} (h : ∀ c ∈ l, isDig c = true) (hc : isDig c = false) : dn (l ++ c :: m) = l.length := by
  refine dn_eq _ l.length (fun j hj h1 => ?_) (by simp) (fun h1 => ?_)
  · rw [List.getElem_append_left h1]; exact h _ (List.getElem_mem h1)
  · rw [List.getElem_append_right (Nat.le_refl _)]; simpa using hc
/-- The bounds of what a text denotes. -/
theorem rat_lt {l : List UInt8} {n d : Nat} (h : rat l = some (n, d)) : n < 10 ^ l.length ∧ d < 10 ^ (l.length + 1) := by
  have hle := dn_le l
  have hp : ∀ {a b : Nat}, a ≤ b → 10 ^ a ≤ 10 ^ b := fun hab => Nat.pow_le_pow_right (by decide) hab
  have hw : val (l.take (dn l)) < 10 ^ l.length := by
    have h1 := val_lt _ (take_dn_dig l)
    rw [List.length_take, Nat.min_eq_left hle] at h1
    exact Nat.lt_of_lt_of_le h1 (hp hle)
  unfold rat at h
  split at h
  · cases h
  · have hdl : (l.drop (dn l)).length = l.length - dn l := List.length_drop
    split at h
    · injection h with h; injection h with h1 h2
      subst h1 h2
      exact ⟨hw, Nat.lt_of_lt_of_le (by decide : 1 < 10 ^ 1) (hp (by omega))⟩
    · rename_i c more he
      rw [he, List.length_cons] at hdl
      split at h
      · cases h
      · rename_i hc
        have hm : dn more = more.length := by
          rcases Nat.decEq (dn more) more.length with h1 | h1
          · exact absurd (Or.inr h1) hc
          · exact h1
        have hmd := all_of_dn hm
        split at h
        · injection h with h; injection h with h1 h2
          subst h1 h2
          refine ⟨?_, Nat.pow_lt_pow_right (by decide) (by omega)⟩
          refine Nat.lt_of_lt_of_le (val_lt _ ?_) (hp ?_)
          · intro x hx
            rcases List.mem_append.1 hx with h1 | h1
            · exact take_dn_dig l x h1
            · exact hmd x h1
          · rw [List.length_append, List.length_take, Nat.min_eq_left hle]; omega
        · split at h
          · injection h with h; injection h with h1 h2
            subst h1 h2
            exact ⟨hw, Nat.lt_of_lt_of_le (val_lt _ hmd) (hp (by omega))⟩
          · cases h
end Dc
