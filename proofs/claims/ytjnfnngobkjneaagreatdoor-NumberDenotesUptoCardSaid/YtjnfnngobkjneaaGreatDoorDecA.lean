/- Texts with a point and with a slash: what they denote. Sizes of results that have no error. -/
import Derived.Test.YtjnfnngobkjneaaGreatDoorLawParses
import Derived.Test.YtjnfnngobkjneaaGreatDoorPowP
import Derived.Test.YtjnfnngobkjneaaGreatDoorNumI
namespace Go.Proofs.YtjnfnngobkjneaaGreatDoor
open Go.RowKit Dg Dc

/-- A text of 1 to 30 digits. -/
def DigS (l : List UInt8) : Prop := (∀ c ∈ l, isDig c = true) ∧ 0 < l.length ∧ l.length ≤ 30
theorem neg_dig {l m : List UInt8} (h : ∀ c ∈ l, isDig c = true) (h0 : 0 < l.length) : neg? (l ++ m) = false := by
  cases l with
  | nil => simp at h0
  | cons c r =>
    have h1 := h c (by simp)
    rw [List.cons_append, neg_cons]
    cases hc : c == 45
    · rfl
    · rw [eq_of_beq hc] at h1; exact absurd h1 (by decide)
theorem body_no {l : List UInt8} (h : neg? l = false) : body l = l := by unfold body; rw [h]; rfl
theorem rat_plain {l : List UInt8} (h : ∀ c ∈ l, isDig c = true) (h0 : 0 < l.length) : rat l = some (val l, 1) := by
  unfold rat
  rw [dn_all h, if_neg (by omega), List.drop_length, List.take_length]
theorem rat_cut {l m : List UInt8} {c : UInt8} (h : ∀ c ∈ l, isDig c = true) (h0 : 0 < l.length) (hm : ∀ c ∈ m, isDig c = true) (hm0 : 0 < m.length) (hc : isDig c = false) :
    rat (l ++ c :: m) = if c = 46 then some (val (l ++ m), 10 ^ m.length) else if c = 47 then some (val l, val m) else none := by
  have hd := dn_append (m := m) h hc
  rw [rat_good (c := c) (m := m) (by omega) (by rw [hd, List.drop_left]) (fun hh => hh.elim (fun h => by subst h; simp at hm0) (fun h => h (dn_all hm))), hd, List.take_left]

theorem ten_le {a b : Nat} (h : a ≤ b) : 10 ^ a ≤ 10 ^ b := Nat.pow_le_pow_right (by decide) h
theorem sm_w {x k j : Nat} (h : x < 10 ^ k) (hk : k ≤ 9 * j) : x < W32 ^ j := by
  refine Nat.lt_of_lt_of_le h (Nat.le_trans (ten_le hk) ?_)
  rw [Nat.pow_mul]
  exact Nat.pow_le_pow_left (by decide) j
theorem not_big {n d : Nat} (hn : n < W32 ^ 64) (hd : d < W32 ^ 64) : big n d = false := by
  unfold big; exact decide_eq_false (by omega)
theorem den1_lt {d k : Nat} (h : d < 10 ^ k) (hk : 0 < k) : den1 d < 10 ^ k := by
  unfold den1; split
  · exact Nat.one_lt_pow (by omega) (by decide)
  · exact h
/-- Both parts have at most k digits. -/
def Sm (a : Bool × Nat × Nat) (k : Nat) : Prop := a.2.1 < 10 ^ k ∧ a.2.2 < 10 ^ k
theorem Sm.le {a : Bool × Nat × Nat} {i j : Nat} (h : Sm a i) (hij : i ≤ j) : Sm a j := ⟨Nat.lt_of_lt_of_le h.1 (ten_le hij), Nat.lt_of_lt_of_le h.2 (ten_le hij)⟩
theorem sm_frac {s : Bool} {n d k : Nat} (hn : n < 10 ^ k) (hd : d < 10 ^ k) : Sm (frac s n d) k :=
  ⟨Nat.lt_of_le_of_lt (Nat.div_le_self _ _) hn, Nat.lt_of_le_of_lt (Nat.div_le_self _ _) hd⟩
theorem Sm.fr {a : Bool × Nat × Nat} {k : Nat} (h : Sm a k) (hk : 0 < k) : Sm (fr a) k := sm_frac h.1 (den1_lt h.2 hk)
theorem Sm.out {a : Bool × Nat × Nat} {k : Nat} (h : Sm a k) : Sm (outF a) k :=
  ⟨h.1, by show den0 a.2.2 < 10 ^ k; unfold den0; split; exact Nat.lt_of_le_of_lt (Nat.zero_le _) h.2; exact h.2⟩
theorem ten_mul {x y i j : Nat} (h : x < 10 ^ i) (h' : y < 10 ^ j) : x * y < 10 ^ (i + j) := by
  rw [Nat.pow_add]
  exact Nat.mul_lt_mul_of_lt_of_lt h h'
theorem Sm.mul {a b : Bool × Nat × Nat} {i j : Nat} (h : Sm a i) (h' : Sm b j) : Sm (fmul a b) (i + j) := sm_frac (ten_mul h.1 h'.1) (ten_mul h.2 h'.2)
theorem Sm.inv {b : Bool × Nat × Nat} {k : Nat} (h : Sm b k) : Sm (finv b) k := ⟨h.2, h.1⟩
theorem Sm.neg {b : Bool × Nat × Nat} {k : Nat} (h : Sm b k) : Sm (fneg b) k := h
theorem Sm.add {a b : Bool × Nat × Nat} {i j : Nat} (h : Sm a i) (h' : Sm b j) : Sm (fadd a b) (i + j + 1) := by
  have h1 := ten_mul h.1 h'.2
  have h2 := ten_mul h'.1 h.2
  have h3 := ten_mul h.2 h'.2
  rw [Nat.add_comm j i] at h2
  have h4 : 10 ^ (i + j + 1) = 10 * 10 ^ (i + j) := by rw [Nat.pow_succ, Nat.mul_comm]
  unfold fadd
  split
  · exact sm_frac (by omega) (by omega)
  · split
    · exact sm_frac (by omega) (by omega)
    · exact sm_frac (by omega) (by omega)
theorem Sm.big {a : Bool × Nat × Nat} {k : Nat} (h : Sm a k) (hk : k ≤ 9 * 64) : big a.2.1 a.2.2 = false := not_big (sm_w h.1 hk) (sm_w h.2 hk)
theorem Sm.large {a : Bool × Nat × Nat} {k : Nat} (h : Sm a k) (h0 : 0 < k) (hk : k ≤ 9 * 64) : large a.2.1 a.2.2 = false := by
  have hb := (h.fr h0).big hk
  have h1 := sm_w h.1 hk
  have h2 := sm_w h.2 hk
  have h3 : W32 ^ 64 ≤ W32 ^ 256 := Nat.pow_le_pow_right W32_pos (by omega)
  rw [large_short (decide_eq_false (by omega))]
  exact hb
theorem Sm.few {a : Bool × Nat × Nat} {k : Nat} (h : Sm a k) (hk : k ≤ 9 * 64) : Few a := by
  have h3 : W32 ^ 64 ≤ W32 ^ 256 := Nat.pow_le_pow_right W32_pos (by omega)
  exact ⟨Nat.lt_of_lt_of_le (sm_w h.1 hk) h3, Nat.lt_of_lt_of_le (sm_w h.2 hk) h3⟩
theorem Sm.nrep {a : Bool × Nat × Nat} {k : Nat} {w : World} {v : Value} (h : Sm a k) (hk : k ≤ 9 * 64) (hF : FNorm w v a) : NRep w v a :=
  FRep.arep hF (lt_big (sm_w h.1 hk) (by omega)) (lt_big (sm_w h.2 hk) (by omega))
theorem ncode_sm {n d n' d' : Nat} {c : Int} {t : Bool × Nat × Nat} (h1 : large n d = false) (h2 : large n' d' = false) (ht : big t.2.1 t.2.2 = false) : ncode n d n' d' c t = c := by
  unfold ncode ucode bcode
  rw [h1, h2, ht]
  by_cases hc : c = 0
  · subst hc; rfl
  · simp [hc]
theorem ucode_sm {n d : Nat} {t : Bool × Nat × Nat} (h1 : large n d = false) (ht : big t.2.1 t.2.2 = false) : ucode n d 0 t = 0 := by
  unfold ucode
  rw [h1, ht]; rfl
theorem FRes.zero {w : World} {e : Ending} {c : Int} {t : Bool × Nat × Nat} (h : FRes w e c (outF t)) (hc : c = 0) : URF w e 0 (outF t) := by
  subst hc
  exact h.uniF

section
variable {va vb : Value} {a b : Bool × Nat × Nat} {i j : Nat} {w : World}
theorem add0 (ha : Sm a i) (hb : Sm b j) (h1 : 0 < i) (h2 : 0 < j) (hij : i + j + 1 ≤ 9 * 64) (hva : FNorm w va a) (hvb : FNorm w vb b) (ht : TabOk w) :
    Calls Tryz.prog 17 #[va, vb] w fun e w' => Below w.heap.size w w' ∧ URF w' e 0 (outF (fadd (fr a) (fr b))) :=
  (nAdd_any va _ _ _ vb _ _ _ w (ha.nrep (by omega) hva) (hb.nrep (by omega) hvb) ht).mono fun _ _ h =>
    ⟨h.1, h.2.zero (ncode_sm (ha.large h1 (by omega)) (hb.large h2 (by omega)) (((ha.fr h1).add (hb.fr h2)).big hij))⟩
theorem eq0 {p q p' q' : Int} (ha : Sm a i) (hb : Sm b j) (hi : i ≤ 9 * 64) (hj : j ≤ 9 * 64) (h1 : IsQ a p q) (h2 : IsQ b p' q') (he : p * q' = p' * q) (hva : FNorm w va a) (hvb : FNorm w vb b) :
    Calls Tryz.prog 14 #[va, vb] w fun e w' => e = .returned (.bool true) ∧ Below w.heap.size w w' :=
  Equal_u va vb a b w (ha.nrep hi hva) (hb.nrep hj hvb) (ha.few hi) (hb.few hj) (h1.same h2 he)
end
theorem fr_int (s : Bool) (n : Nat) : fr (s, n, 0) = (s && decide (n ≠ 0), n, 1) := by
  show frac s n 1 = _
  unfold frac
  rw [Nat.gcd_one_right, Nat.div_one, Nat.div_one]
end Go.Proofs.YtjnfnngobkjneaaGreatDoor
