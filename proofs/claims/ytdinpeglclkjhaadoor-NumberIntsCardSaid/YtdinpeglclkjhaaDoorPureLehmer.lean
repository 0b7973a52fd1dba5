/- Plain facts on Lehmer's steps of Euclid's algorithm. No program is named here. -/
namespace Lm

/-- The same common divisors. -/
def SameDiv (a b c d : Int) : Prop := ∀ g : Int, (g ∣ a ∧ g ∣ b) ↔ (g ∣ c ∧ g ∣ d)
theorem SameDiv.refl (a b : Int) : SameDiv a b a b := fun _ => Iff.rfl
theorem SameDiv.step {a b c d : Int} (h : SameDiv a b c d) (q : Int) : SameDiv a b d (c - q * d) := fun g => (h g).trans
  ⟨fun ⟨h1, h2⟩ => ⟨h2, Int.dvd_sub h1 (Int.dvd_trans h2 (Int.dvd_mul_left q d))⟩,
   fun ⟨h1, h2⟩ => ⟨by have := Int.dvd_add h2 (Int.dvd_trans h1 (Int.dvd_mul_left q d)); rwa [Int.sub_add_cancel] at this, h1⟩⟩
theorem SameDiv.gcd {a b c d : Nat} (h : SameDiv a b c d) : Nat.gcd a b = Nat.gcd c d := by
  refine Nat.dvd_antisymm (Nat.dvd_gcd ?_ ?_) (Nat.dvd_gcd ?_ ?_)
  · have := ((h (Nat.gcd a b : Nat)).1 ⟨Int.natCast_dvd_natCast.2 (Nat.gcd_dvd_left a b), Int.natCast_dvd_natCast.2 (Nat.gcd_dvd_right a b)⟩).1
    exact Int.natCast_dvd_natCast.1 this
  · have := ((h (Nat.gcd a b : Nat)).1 ⟨Int.natCast_dvd_natCast.2 (Nat.gcd_dvd_left a b), Int.natCast_dvd_natCast.2 (Nat.gcd_dvd_right a b)⟩).2
    exact Int.natCast_dvd_natCast.1 this
  · have := ((h (Nat.gcd c d : Nat)).2 ⟨Int.natCast_dvd_natCast.2 (Nat.gcd_dvd_left c d), Int.natCast_dvd_natCast.2 (Nat.gcd_dvd_right c d)⟩).1
    exact Int.natCast_dvd_natCast.1 this
  · have := ((h (Nat.gcd c d : Nat)).2 ⟨Int.natCast_dvd_natCast.2 (Nat.gcd_dvd_left c d), Int.natCast_dvd_natCast.2 (Nat.gcd_dvd_right c d)⟩).2
    exact Int.natCast_dvd_natCast.1 this

/-- A combination with a sign: 's = true': u * a - v * b, otherwise v * b - u * a. -/
def cmb (s : Bool) (u a v b : Nat) : Int := if s then (u : Int) * a - (v : Int) * b else (v : Int) * b - (u : Int) * a

/-- What holds at the head of the loop. X, Y: the first bits of a and b, the rest of them alpha and beta, below S. -/
structure St (a b X Y x y u0 u1 u2 v0 v1 v2 : Nat) (ev : Bool) : Prop where
  hx : (x : Int) = cmb (!ev) u1 X v1 Y
  hy : (y : Int) = cmb ev u2 X v2 Y
  same : SameDiv a b (cmb (!ev) u1 a v1 b) (cmb ev u2 a v2 b)
  det : v2 * x + v1 * y = X
  yx : y ≤ x
  u2v2 : u2 ≤ v2
  sum : u1 + u2 ≤ v1 + v2
  v2pos : 0 < v2
  v1small : v1 < 4294967296
  u1small : u1 < 4294967296
  prev : (v1 = 0 ∧ v0 = 0 ∧ u0 = 0 ∧ u1 = 1 ∧ u2 = 0 ∧ v2 = 1 ∧ ev = false) ∨
    (v0 < 4294967296 ∧ u0 < 4294967296 ∧ 0 < v1 ∧ (v0 = 0 → u0 = 1) ∧ SameDiv a b (cmb ev u0 a v0 b) (cmb (!ev) u1 a v1 b) ∧ 0 ≤ cmb (!ev) u1 a v1 b ∧ cmb (!ev) u1 a v1 b < cmb ev u0 a v0 b ∧ cmb (!ev) u1 a v1 b ≤ b ∧ (0 < v0 → cmb (!ev) u1 a v1 b < b) ∧ (0 < v0 → cmb ev u0 a v0 b ≤ b))

theorem St.start {a b X Y : Nat} (hYX : Y ≤ X) : St a b X Y X Y 0 1 0 0 0 1 false where
  hx := by simp [cmb]
  hy := by simp [cmb]
  same := by
    have e1 : cmb (!false) 1 a 0 b = a := by simp [cmb]
    have e2 : cmb false 0 a 1 b = b := by simp [cmb]
    rw [e1, e2]; exact SameDiv.refl _ _
  det := by omega
  yx := hYX
  u2v2 := by omega
  sum := by omega
  v2pos := by omega
  v1small := by omega
  u1small := by omega
  prev := .inl ⟨rfl, rfl, rfl, rfl, rfl, rfl, rfl⟩

/-- Collins' condition decides. -/
theorem collins {a b X Y x y u1 u2 v1 v2 α β S : Nat} {ev : Bool} (ha : a = X * S + α) (hb : b = Y * S + β) (hα : α < S) (hβ : β < S)
    (hx : (x : Int) = cmb (!ev) u1 X v1 Y) (hy : (y : Int) = cmb ev u2 X v2 Y) (u2v2 : u2 ≤ v2) (sum : u1 + u2 ≤ v1 + v2) (v2pos : 0 < v2)
    (h1 : v2 ≤ y) (h2 : v1 + v2 ≤ x - y) (hyx : y ≤ x) :
    0 ≤ cmb ev u2 a v2 b ∧ cmb ev u2 a v2 b < cmb (!ev) u1 a v1 b := by
  obtain ⟨t, rfl⟩ : ∃ t, y = v2 + t := ⟨y - v2, by omega⟩
  obtain ⟨r, rfl⟩ : ∃ r, x = v2 + t + (v1 + v2) + r := ⟨x - (v2 + t) - (v1 + v2), by omega⟩
  have hS : 0 < S := by omega
  -- products with S
  have p1 : v2 * β ≤ v2 * S := Nat.mul_le_mul_left _ (Nat.le_of_lt hβ)
  have p2 : u2 * α ≤ u2 * S := Nat.mul_le_mul_left _ (Nat.le_of_lt hα)
  have p3 : u2 * S ≤ v2 * S := Nat.mul_le_mul_right _ u2v2
  have q1 : v1 * β ≤ v1 * S := Nat.mul_le_mul_left _ (Nat.le_of_lt hβ)
  have q2 : u1 * α ≤ u1 * S := Nat.mul_le_mul_left _ (Nat.le_of_lt hα)
  have q3 : u1 * S + u2 * S ≤ v1 * S + v2 * S := by rw [← Nat.add_mul, ← Nat.add_mul]; exact Nat.mul_le_mul_right _ sum
  have q4 : v2 * (β + 1) ≤ v2 * S := Nat.mul_le_mul_left _ hβ
  have q5 : u2 * α + u1 * α + (v1 + v2) ≤ v1 * S + v2 * S := by
    have w1 : (u1 + u2) * α ≤ (v1 + v2) * α := Nat.mul_le_mul_right _ sum
    have w2 : (v1 + v2) * (α + 1) ≤ (v1 + v2) * S := Nat.mul_le_mul_left _ hα
    rw [Nat.add_mul u1, Nat.mul_succ] at *
    rw [Nat.add_mul v1 v2 S] at w2
    omega
  have q6 : v1 * β + v2 * β + (v1 + v2) ≤ v1 * S + v2 * S := by
    have w2 : (v1 + v2) * (β + 1) ≤ (v1 + v2) * S := Nat.mul_le_mul_left _ hβ
    rw [Nat.mul_succ, Nat.add_mul, Nat.add_mul] at w2
    omega
  rw [Nat.mul_succ] at q4
  subst ha hb
  cases ev
  · simp only [cmb, Bool.not_false, if_true, Bool.false_eq_true, if_false] at *
    have e1 : ((v2 : Int) * ((Y * S + β : Nat) : Int) - u2 * ((X * S + α : Nat) : Int)) = ((v2 + t : Nat) : Int) * S + v2 * β - u2 * α := by
      rw [hy]; push_cast; grind
    have e2 : ((u1 : Int) * ((X * S + α : Nat) : Int) - v1 * ((Y * S + β : Nat) : Int)) = ((v2 + t + (v1 + v2) + r : Nat) : Int) * S + u1 * α - v1 * β := by
      rw [hx]; push_cast; grind
    rw [e1, e2]
    have c1 : ((v2 + t : Nat) : Int) * S = ((v2 * S : Nat) : Int) + ((t * S : Nat) : Int) := by push_cast; grind
    have c2 : ((v2 + t + (v1 + v2) + r : Nat) : Int) * S = ((v2 * S : Nat) : Int) + ((t * S : Nat) : Int) + ((v1 * S : Nat) : Int) + ((v2 * S : Nat) : Int) + ((r * S : Nat) : Int) := by push_cast; grind
    rw [c1, c2, ← Int.natCast_mul, ← Int.natCast_mul, ← Int.natCast_mul, ← Int.natCast_mul]
    omega
  · simp only [cmb, Bool.not_true, if_true, Bool.false_eq_true, if_false] at *
    have e1 : ((u2 : Int) * ((X * S + α : Nat) : Int) - v2 * ((Y * S + β : Nat) : Int)) = ((v2 + t : Nat) : Int) * S + u2 * α - v2 * β := by
      rw [hy]; push_cast; grind
    have e2 : ((v1 : Int) * ((Y * S + β : Nat) : Int) - u1 * ((X * S + α : Nat) : Int)) = ((v2 + t + (v1 + v2) + r : Nat) : Int) * S + v1 * β - u1 * α := by
      rw [hx]; push_cast; grind
    rw [e1, e2]
    have c1 : ((v2 + t : Nat) : Int) * S = ((v2 * S : Nat) : Int) + ((t * S : Nat) : Int) := by push_cast; grind
    have c2 : ((v2 + t + (v1 + v2) + r : Nat) : Int) * S = ((v2 * S : Nat) : Int) + ((t * S : Nat) : Int) + ((v1 * S : Nat) : Int) + ((v2 * S : Nat) : Int) + ((r * S : Nat) : Int) := by push_cast; grind
    rw [c1, c2, ← Int.natCast_mul, ← Int.natCast_mul, ← Int.natCast_mul, ← Int.natCast_mul]
    omega
theorem cmb_step (s : Bool) (q u1 u2 v1 v2 a b : Nat) : cmb s (u1 + q * u2) a (v1 + q * v2) b = cmb s u1 a v1 b - (q : Int) * cmb (!s) u2 a v2 b := by
  cases s <;> simp only [cmb, Bool.not_false, Bool.not_true, if_true, Bool.false_eq_true, if_false] <;> push_cast <;> grind

theorem lt32 {v : Nat} (h : v * v < 18446744073709551616) : v < 4294967296 := by
  rcases Nat.lt_or_ge v 4294967296 with h' | h'
  · exact h'
  · have := Nat.mul_le_mul h' h'
    omega

theorem St.bound {a b X Y x y u0 u1 u2 v0 v1 v2 : Nat} {ev : Bool} (h : St a b X Y x y u0 u1 u2 v0 v1 v2 ev) (hX : X < 18446744073709551616)
    (h1 : v2 ≤ y) : v2 < 4294967296 ∧ u2 < 4294967296 ∧ 0 < y ∧ v1 + x / y * v2 ≤ X ∧ u1 + x / y * u2 ≤ X ∧ v1 + x / y * v2 < 18446744073709551616 ∧ u1 + x / y * u2 < 18446744073709551616 := by
  have hy0 : 0 < y := Nat.lt_of_lt_of_le h.v2pos h1
  have hyx := h.yx
  have a1 : v2 * v2 ≤ v2 * x := Nat.mul_le_mul_left _ (by omega)
  have hd := h.det
  have hv : v2 < 4294967296 := lt32 (by omega)
  have hq : 1 ≤ x / y := (Nat.le_div_iff_mul_le hy0).2 (by omega)
  have a2 : (v1 + x / y * v2) * 1 ≤ (v1 + x / y * v2) * y := Nat.mul_le_mul_left _ hy0
  have a3 : (v1 + x / y * v2) * y ≤ X := by
    have e : (v1 + x / y * v2) * y = v1 * y + v2 * (x / y * y) := by rw [Nat.add_mul, Nat.mul_comm (x / y) v2, Nat.mul_assoc]
    have a4 : v2 * (x / y * y) ≤ v2 * x := Nat.mul_le_mul_left _ (Nat.div_mul_le_self x y)
    omega
  have a5 : u1 + x / y * u2 ≤ v1 + x / y * v2 := by
    obtain ⟨t, ht⟩ : ∃ t, x / y = t + 1 := ⟨x / y - 1, by omega⟩
    rw [ht, Nat.succ_mul, Nat.succ_mul]
    have := Nat.mul_le_mul_left t h.u2v2
    have := h.sum
    omega
  have := h.u2v2
  exact ⟨hv, by omega, hy0, by omega, by omega, by omega, by omega⟩

theorem St.next {a b X Y x y u0 u1 u2 v0 v1 v2 α β S : Nat} {ev : Bool} (h : St a b X Y x y u0 u1 u2 v0 v1 v2 ev) (hX : X < 18446744073709551616)
    (ha : a = X * S + α) (hb : b = Y * S + β) (hα : α < S) (hβ : β < S) (h1 : v2 ≤ y) (h2 : v1 + v2 ≤ x - y) :
    St a b X Y y (x % y) u1 u2 (u1 + x / y * u2) v1 v2 (v1 + x / y * v2) (!ev) := by
  have hc := collins ha hb hα hβ h.hx h.hy h.u2v2 h.sum h.v2pos h1 h2 h.yx
  obtain ⟨b1, b2, hy0, _, _, _, _⟩ := h.bound hX h1
  have hq : 1 ≤ x / y := (Nat.le_div_iff_mul_le hy0).2 (by have := h.yx; omega)
  have hm := Nat.mod_add_div x y
  have hsum := h.sum
  have hu := h.u2v2
  obtain ⟨t, ht⟩ : ∃ t, x / y = t + 1 := ⟨x / y - 1, by omega⟩
  have ht2 := Nat.mul_le_mul_left t h.u2v2
  refine ⟨by rw [Bool.not_not]; exact h.hy, ?_, ?_, ?_, Nat.le_of_lt (Nat.mod_lt _ hy0), ?_, ?_, ?_, b1, b2, .inr ?_⟩
  · rw [cmb_step, Bool.not_not, ← h.hx, ← h.hy]
    have : ((x % y + y * (x / y) : Nat) : Int) = x := by rw [hm]
    push_cast at this ⊢
    grind
  · have := h.same.step (x / y : Nat)
    rw [Bool.not_not, cmb_step, Bool.not_not]
    exact this
  · have hd := h.det
    have e : (v1 + x / y * v2) * y + v2 * (x % y) = v1 * y + v2 * (x % y + y * (x / y)) := by grind
    rw [e, hm]; omega
  · rw [ht, Nat.succ_mul, Nat.succ_mul]; omega
  · rw [ht, Nat.succ_mul, Nat.succ_mul]; omega
  · have := h.v2pos; have : 0 < x / y * v2 := Nat.mul_pos hq h.v2pos; omega
  · rw [Bool.not_not]
    refine ⟨h.v1small, h.u1small, h.v2pos, ?_, h.same, hc.1, hc.2, ?_, ?_, ?_⟩
    · intro h0
      rcases h.prev with ⟨_, _, _, p, _⟩ | ⟨_, _, p, _⟩
      · exact p
      · omega
    · rcases h.prev with ⟨p1, p2, p3, p4, p5, p6, p7⟩ | ⟨_, _, _, _, _, _, _, p, _⟩
      · subst p5 p6 p7; simp [cmb]
      · have := hc.2; omega
    · intro h0
      rcases h.prev with ⟨p1, _⟩ | ⟨_, _, _, _, _, _, _, p, _⟩
      · omega
      · have := hc.2; omega
    · intro h0
      rcases h.prev with ⟨p1, _⟩ | ⟨_, _, _, _, _, _, _, p, _⟩
      · omega
      · exact p

/-- What the last two combinations are good for. -/
theorem St.result {a b X Y x y u0 u1 u2 v0 v1 v2 : Nat} {ev : Bool} (h : St a b X Y x y u0 u1 u2 v0 v1 v2 ev) (h0 : v0 ≠ 0) :
    ∃ n r : Nat, cmb ev u0 a v0 b = n ∧ cmb (!ev) u1 a v1 b = r ∧ r < n ∧ r < b ∧ n ≤ b ∧ Nat.gcd n r = Nat.gcd a b := by
  rcases h.prev with ⟨_, p, _⟩ | ⟨_, _, _, _, p1, p2, p3, _, p5, p7⟩
  · exact absurd p h0
  · obtain ⟨r, hr⟩ := Int.eq_ofNat_of_zero_le p2
    obtain ⟨n, hn⟩ := Int.eq_ofNat_of_zero_le (Int.le_of_lt (Int.lt_of_le_of_lt p2 p3))
    have p6 := p5 (by omega)
    have p8 := p7 (by omega)
    refine ⟨n, r, hn, hr, by omega, by omega, by omega, ?_⟩
    rw [hn, hr] at p1
    exact p1.gcd.symm
end Lm
