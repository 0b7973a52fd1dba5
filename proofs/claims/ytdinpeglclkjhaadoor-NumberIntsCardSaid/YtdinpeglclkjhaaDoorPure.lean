/- Plain facts on digits of natural numbers to a base. No program is named here. -/
namespace Dg

/-- The digit of x at place j to the base B. -/
def dg (B x j : Nat) : Nat := x / B ^ j % B

theorem dg_lt {B x j : Nat} (h : 0 < B) : dg B x j < B := Nat.mod_lt _ h

theorem mod_succ (B x i : Nat) : x % B ^ (i + 1) = x % B ^ i + B ^ i * dg B x i := by
  rw [Nat.pow_succ, Nat.mod_mul]; rfl

theorem dg_zero {B x j : Nat} (h : x < B ^ j) : dg B x j = 0 := by
  unfold dg; rw [Nat.div_eq_of_lt h]; exact Nat.zero_mod _

theorem dg_zero' {B x i j : Nat} (hB : 0 < B) (h : x < B ^ i) (hij : i ≤ j) : dg B x j = 0 :=
  dg_zero (Nat.lt_of_lt_of_le h (Nat.pow_le_pow_right hB hij))

theorem dg_top {B x i : Nat} (h : x < B ^ (i + 1)) : dg B x i = x / B ^ i := by
  unfold dg
  refine Nat.mod_eq_of_lt (Nat.div_lt_of_lt_mul ?_)
  rwa [Nat.pow_succ] at h

/-- A digit more: the digits of X + B^i * s. -/
theorem dg_add_lt {B X s i j : Nat} (hB : 0 < B) (hj : j < i) : dg B (X + B ^ i * s) j = dg B X j := by
  unfold dg
  obtain ⟨k, rfl⟩ : ∃ k, i = j + (k + 1) := ⟨i - j - 1, by omega⟩
  rw [Nat.pow_add, Nat.mul_assoc, Nat.add_mul_div_left _ _ (Nat.pow_pos hB), Nat.pow_succ, Nat.mul_comm (B ^ k) B, Nat.mul_assoc, Nat.add_mul_mod_self_left]

theorem dg_add_eq {B X s i : Nat} (hB : 0 < B) (hX : X < B ^ i) (hs : s < B) : dg B (X + B ^ i * s) i = s := by
  unfold dg
  rw [Nat.add_mul_div_left _ _ (Nat.pow_pos hB), Nat.div_eq_of_lt hX, Nat.zero_add, Nat.mod_eq_of_lt hs]

theorem add_lt {B X s i : Nat} (hX : X < B ^ i) (hs : s < B) : X + B ^ i * s < B ^ (i + 1) := by
  rw [Nat.pow_succ]
  have h1 : B ^ i * (s + 1) ≤ B ^ i * B := Nat.mul_le_mul_left _ hs
  rw [Nat.mul_add] at h1
  omega

theorem dg_add_gt {B X s i j : Nat} (hB : 0 < B) (hX : X < B ^ i) (hs : s < B) (hj : i < j) : dg B (X + B ^ i * s) j = dg B X j := by
  rw [dg_zero' hB (add_lt hX hs) hj, dg_zero' hB hX (by omega)]

/-- What a store of the next digit does to a row that holds the digits of X. -/
theorem dg_store {B X s i j : Nat} (hB : 0 < B) (hX : X < B ^ i) (hs : s < B) : (if j = i then s else dg B X j) = dg B (X + B ^ i * s) j := by
  by_cases h : j = i
  · subst h; rw [if_pos rfl, dg_add_eq hB hX hs]
  · rw [if_neg h]
    rcases Nat.lt_or_ge j i with h' | h'
    · rw [dg_add_lt hB h']
    · rw [dg_add_gt hB hX hs (by omega)]

/-- Two numbers below B^n with the same digits are one. -/
theorem ext_dg {B n : Nat} : ∀ {x y : Nat}, x < B ^ n → y < B ^ n → (∀ j, j < n → dg B x j = dg B y j) → x = y := by
  intro x y hx hy h
  have key : ∀ k, k ≤ n → x % B ^ k = y % B ^ k := by
    intro k
    induction k with
    | zero => intro _; simp [Nat.mod_one]
    | succ k ih => intro hk; rw [mod_succ, mod_succ, ih (by omega), h k (by omega)]
  have := key n (Nat.le_refl n)
  rwa [Nat.mod_eq_of_lt hx, Nat.mod_eq_of_lt hy] at this

/-- A number has k digits: no leading zero. -/
def Len (B x n : Nat) : Prop := x < B ^ n ∧ (0 < n → B ^ (n - 1) ≤ x)

theorem Len.unique {B x m n : Nat} (hB : 1 < B) (h : Len B x m) (k : Len B x n) : m = n := by
  rcases Nat.lt_trichotomy m n with hl | hl | hl
  · exfalso
    have h1 := k.2 (by omega)
    have h2 := Nat.pow_le_pow_right (Nat.le_of_lt hB) (show m ≤ n - 1 by omega)
    have := h.1
    omega
  · exact hl
  · exfalso
    have h1 := h.2 (by omega)
    have h2 := Nat.pow_le_pow_right (Nat.le_of_lt hB) (show n ≤ m - 1 by omega)
    have := k.1
    omega

theorem Len.zero {B : Nat} : Len B 0 0 := ⟨by simp, fun h => absurd h (by omega)⟩
theorem Len.eq_zero {B x : Nat} (h : Len B x 0) : x = 0 := by have := h.1; simp at this; omega
theorem Len.pos {B x n : Nat} (hB : 0 < B) (h : Len B x n) (hn : 0 < n) : 0 < x := Nat.lt_of_lt_of_le (Nat.pow_pos hB) (h.2 hn)
theorem Len.zero_iff {B x n : Nat} (hB : 0 < B) (h : Len B x n) : x = 0 ↔ n = 0 := by
  constructor
  · intro hx; rcases Nat.eq_zero_or_pos n with h0 | h0
    · exact h0
    · have := h.pos hB h0; omega
  · intro hn; subst hn; exact h.eq_zero
theorem Len.le {B x n m : Nat} (hB : 0 < B) (h : Len B x n) (hx : x < B ^ m) : n ≤ m := by
  rcases Nat.lt_or_ge m n with hl | hl
  · exfalso
    have h1 := h.2 (by omega)
    have h2 := Nat.pow_le_pow_right hB (show m ≤ n - 1 by omega)
    omega
  · exact hl
/-- The top digit is not 0. -/
theorem Len.top {B x n : Nat} (hB : 0 < B) (h : Len B x n) (hn : 0 < n) : dg B x (n - 1) ≠ 0 := by
  obtain ⟨k, rfl⟩ : ∃ k, n = k + 1 := ⟨n - 1, by omega⟩
  have h1 := h.2 hn
  simp only [Nat.add_sub_cancel] at h1 ⊢
  rw [dg_top h.1]
  have : 0 < x / B ^ k := Nat.div_pos h1 (Nat.pow_pos hB)
  omega
theorem Len.of_top {B x k : Nat} (h : x < B ^ (k + 1)) (ht : dg B x k ≠ 0) : Len B x (k + 1) := by
  refine ⟨h, fun _ => ?_⟩
  simp only [Nat.add_sub_cancel]
  rcases Nat.lt_or_ge x (B ^ k) with hl | hl
  · exact absurd (dg_zero hl) ht
  · exact hl
theorem lt_of_top_zero {B x k : Nat} (hB : 0 < B) (h : x < B ^ (k + 1)) (ht : dg B x k = 0) : x < B ^ k := by
  rw [dg_top h] at ht
  rcases Nat.lt_or_ge x (B ^ k) with hl | hl
  · exact hl
  · have : 0 < x / B ^ k := Nat.div_pos hl (Nat.pow_pos hB)
    omega
theorem Len.lt_of_lt {B x y m n : Nat} (hB : 0 < B) (h : Len B x m) (k : Len B y n) (hl : m < n) : x < y := by
  have h1 := k.2 (by omega)
  have h2 := Nat.pow_le_pow_right hB (show m ≤ n - 1 by omega)
  have := h.1
  omega
/-- The upper part of a number: what the digits from i on make. -/
theorem div_succ (B x i : Nat) : x / B ^ i = dg B x i + B * (x / B ^ (i + 1)) := by
  unfold dg
  rw [Nat.pow_succ, ← Nat.div_div_eq_div_mul, Nat.mod_add_div]

/-- Compare from the top. -/
theorem lt_of_dg_lt {B x y i : Nat} (he : x / B ^ (i + 1) = y / B ^ (i + 1)) (hd : dg B x i < dg B y i) : x < y := by
  have h1 := div_succ B x i
  have h2 := div_succ B y i
  rw [he] at h1
  have h3 : x / B ^ i < y / B ^ i := by omega
  rcases Nat.lt_or_ge x y with hl | hl
  · exact hl
  · have := Nat.div_le_div_right (c := B ^ i) hl
    omega

/-- A round of an addition with carry. -/
theorem add_round {B X x y s c c' i : Nat} (hX : X + B ^ i * c = x % B ^ i + y % B ^ i) (hs : s + B * c' = c + (dg B x i + dg B y i)) :
    X + B ^ i * s + B ^ (i + 1) * c' = x % B ^ (i + 1) + y % B ^ (i + 1) := by
  rw [mod_succ, mod_succ, Nat.pow_succ, Nat.mul_assoc]
  have : X + B ^ i * s + B ^ i * (B * c') = X + B ^ i * (s + B * c') := by rw [Nat.mul_add]; omega
  rw [this, hs, Nat.mul_add, Nat.mul_add]; omega
theorem add_end {B X x y c n : Nat} (hX : X + B ^ n * c = x % B ^ n + y % B ^ n) (h : x + y < B ^ n) : X = x + y := by
  rw [Nat.mod_eq_of_lt (by omega), Nat.mod_eq_of_lt (by omega)] at hX
  rcases Nat.eq_zero_or_pos c with h0 | h0
  · subst h0; omega
  · have : B ^ n * 1 ≤ B ^ n * c := Nat.mul_le_mul_left _ h0
    omega
/-- A round of a subtraction with borrow. -/
theorem sub_round {B X x y s c c' i : Nat} (hX : X + y % B ^ i = x % B ^ i + B ^ i * c) (hs : s + dg B y i + c = dg B x i + B * c') :
    X + B ^ i * s + y % B ^ (i + 1) = x % B ^ (i + 1) + B ^ (i + 1) * c' := by
  rw [mod_succ, mod_succ, Nat.pow_succ, Nat.mul_assoc]
  have e : B ^ i * (s + dg B y i + c) = B ^ i * (dg B x i + B * c') := by rw [hs]
  simp only [Nat.mul_add] at e
  omega
theorem sub_end {B X x y c n : Nat} (hX : X + y % B ^ n = x % B ^ n + B ^ n * c) (hx : x < B ^ n) (hyx : y ≤ x) (hX' : X < B ^ n) : X = x - y := by
  rw [Nat.mod_eq_of_lt hx, Nat.mod_eq_of_lt (by omega)] at hX
  rcases Nat.eq_zero_or_pos c with h0 | h0
  · subst h0; omega
  · have : B ^ n * 1 ≤ B ^ n * c := Nat.mul_le_mul_left _ h0
    omega
/-- The digit at place k set to s. -/
def setd (B Z k s : Nat) : Nat := Z % B ^ k + B ^ k * (s + B * (Z / B ^ (k + 1)))

theorem setd_val (B Z k s : Nat) : setd B Z k s + B ^ k * dg B Z k = Z + B ^ k * s := by
  unfold setd
  have h1 := Nat.mod_add_div Z (B ^ k)
  rw [div_succ B Z k] at h1
  simp only [Nat.mul_add] at h1 ⊢
  omega

theorem dg_setd {B Z k s j : Nat} (hB : 0 < B) (hs : s < B) : dg B (setd B Z k s) j = if j = k then s else dg B Z j := by
  have hm : Z % B ^ k < B ^ k := Nat.mod_lt _ (Nat.pow_pos hB)
  unfold setd
  by_cases h : j = k
  · subst h
    rw [if_pos rfl]
    unfold dg
    rw [Nat.add_mul_div_left _ _ (Nat.pow_pos hB), Nat.div_eq_of_lt hm, Nat.zero_add, Nat.add_mul_mod_self_left, Nat.mod_eq_of_lt hs]
  · rw [if_neg h]
    rcases Nat.lt_or_ge j k with h' | h'
    · rw [dg_add_lt hB h']
      have e := Nat.mod_add_div Z (B ^ k)
      conv => rhs; rw [← e]
      rw [dg_add_lt hB h']
    · obtain ⟨m, rfl⟩ : ∃ m, j = k + 1 + m := ⟨j - k - 1, by omega⟩
      unfold dg
      generalize hW : Z / B ^ (k + 1) = W
      have e1 : ∀ t, t / B ^ (k + 1 + m) = t / B ^ (k + 1) / B ^ m := fun t => by rw [Nat.pow_add, Nat.div_div_eq_div_mul]
      rw [e1, e1, hW]
      congr 2
      rw [Nat.pow_succ, ← Nat.div_div_eq_div_mul, Nat.add_mul_div_left _ _ (Nat.pow_pos hB), Nat.div_eq_of_lt hm, Nat.zero_add, Nat.add_mul_div_left _ _ hB, Nat.div_eq_of_lt hs, Nat.zero_add]

theorem setd_lt {B Z k s n : Nat} (hB : 0 < B) (hs : s < B) (hZ : Z < B ^ n) (hk : k < n) : setd B Z k s < B ^ n := by
  unfold setd
  obtain ⟨m, rfl⟩ : ∃ m, n = k + 1 + m := ⟨n - k - 1, by omega⟩
  have hm : Z % B ^ k < B ^ k := Nat.mod_lt _ (Nat.pow_pos hB)
  have hd : Z / B ^ (k + 1) < B ^ m := Nat.div_lt_of_lt_mul (by rwa [← Nat.pow_add])
  have h1 : s + B * (Z / B ^ (k + 1)) < B * B ^ m := by
    have : B * (Z / B ^ (k + 1) + 1) ≤ B * B ^ m := Nat.mul_le_mul_left _ hd
    rw [Nat.mul_add] at this; omega
  have h2 : B ^ k * (s + B * (Z / B ^ (k + 1)) + 1) ≤ B ^ k * (B * B ^ m) := Nat.mul_le_mul_left _ h1
  rw [Nat.mul_add] at h2
  have e : B ^ (k + 1 + m) = B ^ k * (B * B ^ m) := by rw [Nat.pow_add, Nat.pow_succ, Nat.mul_assoc]
  rw [e]; omega

/-- A row of digits is the row of the number with one digit set. -/
theorem dg_storeAny {B Z k s j : Nat} (hB : 0 < B) (hs : s < B) : (if j = k then s else dg B Z j) = dg B (setd B Z k s) j := (dg_setd hB hs).symm

/-- A round of the inner loop of a multiplication. -/
theorem mul_round {B X y Z d c c' s i j : Nat} (hZ : Z + B ^ (i + j) * c = X + B ^ i * (d * (y % B ^ j)))
    (hs : s + B * c' = c + d * dg B y j + dg B Z (i + j)) :
    setd B Z (i + j) s + B ^ (i + (j + 1)) * c' = X + B ^ i * (d * (y % B ^ (j + 1))) := by
  have h1 := setd_val B Z (i + j) s
  rw [mod_succ, ← Nat.add_assoc, Nat.pow_succ, Nat.mul_assoc]
  have e : B ^ (i + j) * (s + B * c') = B ^ (i + j) * (c + d * dg B y j + dg B Z (i + j)) := by rw [hs]
  have e2 : B ^ i * (d * (y % B ^ j + B ^ j * dg B y j)) = B ^ i * (d * (y % B ^ j)) + B ^ (i + j) * (d * dg B y j) := by
    rw [Nat.mul_add, Nat.mul_add, Nat.pow_add]; congr 1
    rw [Nat.mul_left_comm d, Nat.mul_assoc]
  rw [e2]
  simp only [Nat.mul_add] at e
  omega
theorem mul_bound {B c d v p s c' : Nat} (hc : c < B) (hd : d < B) (hv : v < B) (hp : p < B) (hs : s + B * c' = c + d * v + p) : c' < B := by
  have h1 : d * v ≤ (B - 1) * (B - 1) := Nat.mul_le_mul (by omega) (by omega)
  obtain ⟨b, rfl⟩ : ∃ b, B = b + 1 := ⟨B - 1, by omega⟩
  simp only [Nat.add_sub_cancel] at h1
  rcases Nat.lt_or_ge c' (b + 1) with h | h
  · exact h
  · exfalso
    have h2 : (b + 1) * (b + 1) ≤ (b + 1) * c' := Nat.mul_le_mul_left _ h
    have h3 : (b + 1) * (b + 1) = b * b + 2 * b + 1 := by grind
    omega
end Dg
