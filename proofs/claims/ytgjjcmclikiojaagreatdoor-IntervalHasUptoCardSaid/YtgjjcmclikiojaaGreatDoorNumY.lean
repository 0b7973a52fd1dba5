/- What triples denote: rational numbers as pairs of integers. The operations on numbers in one form: an error code and a value, whatever the arguments are. Numbers of the program: Sign, Compare. -/
import Derived.Test.YtgjjcmclikiojaaGreatDoorNumX
import Derived.Test.YtgjjcmclikiojaaGreatDoorRefX
namespace Go.Proofs.YtgjjcmclikiojaaGreatDoor
open Go.RowKit Dg

/-- The fraction a is p / q. -/
def FQ (a : Bool × Nat × Nat) (p q : Int) : Prop := q ≠ 0 ∧ 0 < a.2.2 ∧ sv a.1 a.2.1 * q = p * (a.2.2 : Int)
/-- The value a (its denominator 0 stands for 1) is p / q. -/
def IsQ (a : Bool × Nat × Nat) (p q : Int) : Prop := q ≠ 0 ∧ sv a.1 a.2.1 * q = p * (den1 a.2.2 : Int)

theorem sv_mul (s : Bool) (n m : Nat) : sv s (n * m) = sv s n * m := by
  unfold sv; cases s <;> simp [Int.neg_mul]
theorem sv_sign (s : Bool) (n : Nat) (m : Nat) (h : n = 0 → m = 0) : sv (s && decide (n ≠ 0)) m = sv s m := by
  by_cases h0 : n = 0
  · rw [h h0]; unfold sv; simp
  · simp [h0]

theorem IsQ.self (a : Bool × Nat × Nat) : IsQ a (sv a.1 a.2.1) (den1 a.2.2) := by
  have := den1_pos a.2.2
  exact ⟨by omega, rfl⟩

theorem frac_FQ {s : Bool} {n d : Nat} {p q : Int} (hd : 0 < d) (hq : q ≠ 0) (h : sv s n * q = p * (d : Int)) : FQ (frac s n d) p q := by
  have hg0 : 0 < Nat.gcd n d := Nat.gcd_pos_of_pos_right _ hd
  obtain ⟨n', hn⟩ := Nat.gcd_dvd_left n d
  obtain ⟨d', hd'⟩ := Nat.gcd_dvd_right n d
  unfold FQ frac
  simp only
  generalize Nat.gcd n d = g at *
  subst hn hd'
  rw [Nat.mul_div_cancel_left _ hg0, Nat.mul_div_cancel_left _ hg0]
  refine ⟨hq, Nat.pos_of_mul_pos_left hd, ?_⟩
  rw [sv_sign _ _ _ (fun h => by rcases Nat.mul_eq_zero.1 h with h | h <;> omega)]
  rw [Nat.mul_comm g n', sv_mul, Nat.mul_comm g d', Int.natCast_mul] at h
  have hg : (g : Int) ≠ 0 := by omega
  have h2 : (g : Int) * (sv s n' * q) = (g : Int) * (p * (d' : Int)) := by
    calc (g : Int) * (sv s n' * q) = sv s n' * g * q := by grind
      _ = p * ((d' : Int) * g) := h
      _ = (g : Int) * (p * (d' : Int)) := by grind
  exact Int.eq_of_mul_eq_mul_left hg h2
theorem fq_FQ {a : Bool × Nat × Nat} {p q : Int} (h : IsQ a p q) : FQ (frac a.1 a.2.1 (den1 a.2.2)) p q := frac_FQ (den1_pos _) h.1 h.2
theorem out_IsQ {a : Bool × Nat × Nat} {p q : Int} (h : FQ a p q) : IsQ (outF a) p q := by
  refine ⟨h.1, ?_⟩
  have h1 := h.2.1
  have h2 : den1 (den0 a.2.2) = a.2.2 := by unfold den1 den0; by_cases h : a.2.2 = 1 <;> simp [h] <;> omega
  show sv a.1 a.2.1 * q = p * (den1 (den0 a.2.2) : Int)
  rw [h2]
  exact h.2.2
theorem fneg_FQ {a : Bool × Nat × Nat} {p q : Int} (h : FQ a p q) : FQ (fneg a) (-p) q := by
  refine ⟨h.1, h.2.1, ?_⟩
  show sv (!a.1 && decide (a.2.1 ≠ 0)) a.2.1 * q = -p * (a.2.2 : Int)
  rw [sv_sign _ _ _ id]
  have h3 := h.2.2
  have : sv (!a.1) a.2.1 = - sv a.1 a.2.1 := by unfold sv; cases a.1 <;> simp
  rw [this, Int.neg_mul, Int.neg_mul, h3]
theorem fmul_FQ {a b : Bool × Nat × Nat} {p q p' q' : Int} (h : FQ a p q) (h' : FQ b p' q') : FQ (fmul a b) (p * p') (q * q') := by
  refine frac_FQ (Nat.mul_pos h.2.1 h'.2.1) (Int.mul_ne_zero h.1 h'.1) ?_
  have e : sv (a.1 != b.1) (a.2.1 * b.2.1) = sv a.1 a.2.1 * sv b.1 b.2.1 := by
    unfold sv; cases a.1 <;> cases b.1 <;> simp [Int.neg_mul, Int.mul_neg]
  rw [e, Int.natCast_mul]
  have h1 := h.2.2
  have h2 := h'.2.2
  calc sv a.1 a.2.1 * sv b.1 b.2.1 * (q * q') = (sv a.1 a.2.1 * q) * (sv b.1 b.2.1 * q') := by grind
    _ = (p * (a.2.2 : Int)) * (p' * (b.2.2 : Int)) := by rw [h1, h2]
    _ = p * p' * ((a.2.2 : Int) * (b.2.2 : Int)) := by grind
theorem finv_FQ {b : Bool × Nat × Nat} {p q : Int} (h : FQ b p q) (h0 : b.2.1 ≠ 0) : FQ (finv b) q p := by
  have h1 := h.2.2
  have hd := h.2.1
  have hp : p ≠ 0 := by
    intro hp
    subst hp
    rw [Int.zero_mul] at h1
    rcases Int.mul_eq_zero.1 h1 with h2 | h2
    · unfold sv at h2; cases hs : b.1 <;> simp [hs] at h2 <;> omega
    · exact h.1 h2
  refine ⟨hp, Nat.pos_of_ne_zero h0, ?_⟩
  show sv b.1 b.2.2 * p = q * (b.2.1 : Int)
  unfold sv at h1 ⊢
  cases hs : b.1 <;> simp only [hs, if_true, Bool.false_eq_true, if_false] at h1 ⊢ <;> grind
theorem fadd_FQ {a b : Bool × Nat × Nat} {p q p' q' : Int} (h : FQ a p q) (h' : FQ b p' q') : FQ (fadd a b) (p * q' + p' * q) (q * q') := by
  have hd := Nat.mul_pos h.2.1 h'.2.1
  have hq := Int.mul_ne_zero h.1 h'.1
  have h1 := h.2.2
  have h2 := h'.2.2
  have key : (sv a.1 a.2.1 * (b.2.2 : Int) + sv b.1 b.2.1 * (a.2.2 : Int)) * (q * q') = (p * q' + p' * q) * ((a.2.2 * b.2.2 : Nat) : Int) := by
    rw [Int.natCast_mul]
    calc (sv a.1 a.2.1 * (b.2.2 : Int) + sv b.1 b.2.1 * (a.2.2 : Int)) * (q * q') = (sv a.1 a.2.1 * q) * (b.2.2 : Int) * q' + (sv b.1 b.2.1 * q') * (a.2.2 : Int) * q := by grind
      _ = (p * (a.2.2 : Int)) * (b.2.2 : Int) * q' + (p' * (b.2.2 : Int)) * (a.2.2 : Int) * q := by rw [h1, h2]
      _ = (p * q' + p' * q) * ((a.2.2 : Int) * (b.2.2 : Int)) := by grind
  have go : ∀ (s : Bool) (n : Nat), sv s n = sv a.1 a.2.1 * (b.2.2 : Int) + sv b.1 b.2.1 * (a.2.2 : Int) → FQ (frac s n (a.2.2 * b.2.2)) (p * q' + p' * q) (q * q') := fun s n e =>
    frac_FQ hd hq (by rw [e]; exact key)
  unfold fadd
  split
  · rename_i hs
    refine go _ _ ?_
    rw [← hs]
    unfold sv
    cases a.1 <;> simp [Int.neg_mul] <;> omega
  · rename_i hs
    split
    · rename_i hl
      refine go _ _ ?_
      have e1 : sv a.1 a.2.1 * (b.2.2 : Int) = sv a.1 (a.2.1 * b.2.2) := (sv_mul _ _ _).symm
      have e2 : sv b.1 b.2.1 * (a.2.2 : Int) = sv b.1 (b.2.1 * a.2.2) := (sv_mul _ _ _).symm
      rw [e1, e2]
      generalize a.2.1 * b.2.2 = X at *
      generalize b.2.1 * a.2.2 = Y at *
      unfold sv
      cases ha : a.1 <;> cases hb : b.1 <;> simp [ha, hb] at hs ⊢ <;> omega
    · rename_i hl
      refine go _ _ ?_
      have e1 : sv a.1 a.2.1 * (b.2.2 : Int) = sv a.1 (a.2.1 * b.2.2) := (sv_mul _ _ _).symm
      have e2 : sv b.1 b.2.1 * (a.2.2 : Int) = sv b.1 (b.2.1 * a.2.2) := (sv_mul _ _ _).symm
      rw [e1, e2]
      generalize a.2.1 * b.2.2 = X at *
      generalize b.2.1 * a.2.2 = Y at *
      unfold sv
      cases ha : a.1 <;> cases hb : b.1 <;> simp [ha, hb] at hs ⊢ <;> omega

/-- Two values of one number are the same. -/
theorem IsQ.same {a b : Bool × Nat × Nat} {p q p' q' : Int} (h : IsQ a p q) (h' : IsQ b p' q') (e : p * q' = p' * q) : SameQ a.1 a.2.1 a.2.2 b.1 b.2.1 b.2.2 := by
  have ha := den1_pos a.2.2
  have hb := den1_pos b.2.2
  have h1 := h.2
  have h2 := h'.2
  have key : sv a.1 a.2.1 * (den1 b.2.2 : Int) = sv b.1 b.2.1 * (den1 a.2.2 : Int) := by
    have h3 : (q * q') * (sv a.1 a.2.1 * (den1 b.2.2 : Int)) = (q * q') * (sv b.1 b.2.1 * (den1 a.2.2 : Int)) := by
      calc (q * q') * (sv a.1 a.2.1 * (den1 b.2.2 : Int)) = (sv a.1 a.2.1 * q) * q' * (den1 b.2.2 : Int) := by grind
        _ = (p * (den1 a.2.2 : Int)) * q' * (den1 b.2.2 : Int) := by rw [h1]
        _ = (p * q') * (den1 a.2.2 : Int) * (den1 b.2.2 : Int) := by grind
        _ = (p' * q) * (den1 a.2.2 : Int) * (den1 b.2.2 : Int) := by rw [e]
        _ = (p' * (den1 b.2.2 : Int)) * q * (den1 a.2.2 : Int) := by grind
        _ = (sv b.1 b.2.1 * q') * q * (den1 a.2.2 : Int) := by rw [h2]
        _ = (q * q') * (sv b.1 b.2.1 * (den1 a.2.2 : Int)) := by grind
    exact Int.eq_of_mul_eq_mul_left (Int.mul_ne_zero h.1 h'.1) h3
  rw [← sv_mul, ← sv_mul] at key
  unfold SameQ
  have z1 : a.2.1 * den1 b.2.2 = 0 ↔ a.2.1 = 0 := by rw [Nat.mul_eq_zero]; omega
  have z2 : b.2.1 * den1 a.2.2 = 0 ↔ b.2.1 = 0 := by rw [Nat.mul_eq_zero]; omega
  generalize a.2.1 * den1 b.2.2 = X at *
  generalize b.2.1 * den1 a.2.2 = Y at *
  unfold sv at key
  by_cases c1 : a.2.1 = 0
  · have x0 := z1.2 c1
    subst x0
    have : Y = 0 := by cases a.1 <;> cases b.1 <;> simp at key <;> omega
    exact .inl ⟨c1, z2.1 this⟩
  · have x0 : X ≠ 0 := fun h => c1 (z1.1 h)
    have y0 : Y ≠ 0 := by intro h; subst h; cases a.1 <;> cases b.1 <;> simp at key <;> omega
    refine .inr ⟨c1, fun h => y0 (z2.2 h), ?_⟩
    cases ha1 : a.1 <;> cases hb1 : b.1 <;> simp [ha1, hb1] at key ⊢ <;> omega
end Go.Proofs.YtgjjcmclikiojaaGreatDoor
namespace Go.Proofs.YtgjjcmclikiojaaGreatDoor
open Go.RowKit Dg

/-- A value in memory: its sign, numerator and denominator. -/
def NRep (w : World) (v : Value) (a : Bool × Nat × Nat) : Prop := ARep w v a.1 a.2.1 a.2.2
theorem NRep.below {w w' : World} {v : Value} {a : Bool × Nat × Nat} (h : NRep w v a) (hb : Below w.heap.size w w') : NRep w' v a := ARep.below h hb
/-- What an operation's result denotes: 0 where there is an error. -/
def resT (c : Int) (t : Bool × Nat × Nat) : Bool × Nat × Nat := if c = 0 then outF t else (false, 0, 0)
/-- The result as the law takes it. -/
def URes (w : World) (e : Ending) (c : Int) (r : Bool × Nat × Nat) : Prop :=
  ∃ sg pa ka ca pb kb cb, e = .returned (.tuple #[.agg #[.bool sg, .slice pa ka ca, .slice pb kb cb], .int .i64 c]) ∧ Hid (NRep w (.agg #[.bool sg, .slice pa ka ca, .slice pb kb cb]) r)

theorem big_lt {n d : Nat} (h : big n d = false) : n < W32 ^ 64 ∧ d < W32 ^ 64 := by
  unfold big at h
  have := of_decide_eq_false h
  constructor <;> omega
theorem FRes.uni {w : World} {e : Ending} {c : Int} {t : Bool × Nat × Nat} (h : FRes w e c (outF t)) (hb : c = 0 → big t.2.1 t.2.2 = false) : URes w e c (resT c t) := by
  rcases h with ⟨h0, rfl⟩ | ⟨rfl, sg, pa, ka, ca, pb, kb, cb, rfl, hF⟩
  · refine ⟨false, none, 0, 0, none, 0, 0, rfl, hid ?_⟩
    rw [resT, if_neg h0]
    exact ⟨_, _, rfl, Rep.nil.raw (lt_big (show 0 < W32 ^ 1 by decide) (by omega)), Rep.nil.raw (lt_big (show 0 < W32 ^ 1 by decide) (by omega))⟩
  · refine ⟨sg, pa, ka, ca, pb, kb, cb, rfl, hid ?_⟩
    rw [resT, if_pos rfl]
    have h2 := big_lt (hb rfl)
    have hd : den0 t.2.2 < W32 ^ 64 := by unfold den0; split; exact Nat.lt_of_le_of_lt (Nat.zero_le _) h2.2; exact h2.2
    exact FRep.arep hF.out (lt_big h2.1 (by omega)) (lt_big hd (by omega))
theorem ncode_zero {n d n' d' : Nat} {c : Int} {t : Bool × Nat × Nat} (h : ncode n d n' d' c t = 0) : large n d = false ∧ large n' d' = false ∧ c = 0 ∧ big t.2.1 t.2.2 = false := by
  unfold ncode ucode bcode at h
  cases h1 : large n d <;> rw [h1] at h
  · rw [if_neg (by decide)] at h
    cases h2 : large n' d' <;> rw [h2] at h
    · rw [if_neg (by decide : ¬ (false = true))] at h
      by_cases hc : c = 0
      · rw [if_neg (by simpa using hc)] at h
        refine ⟨rfl, rfl, hc, ?_⟩
        cases h3 : big t.2.1 t.2.2 <;> rw [h3] at h
        exact absurd h (by decide)
      · rw [if_pos hc] at h
        exact absurd h hc
    · rw [if_pos rfl, if_pos (by decide)] at h
      exact absurd h (by decide)
  · rw [if_pos rfl] at h
    exact absurd h (by decide)
/-- The fraction of a value. -/
def fr (a : Bool × Nat × Nat) : Bool × Nat × Nat := frac a.1 a.2.1 (den1 a.2.2)
def addc (a b : Bool × Nat × Nat) : Int := ncode a.2.1 a.2.2 b.2.1 b.2.2 0 (fadd (fr a) (fr b))
def addt (a b : Bool × Nat × Nat) : Bool × Nat × Nat := resT (addc a b) (fadd (fr a) (fr b))
def subc (a b : Bool × Nat × Nat) : Int := ncode a.2.1 a.2.2 b.2.1 b.2.2 0 (fsub (fr a) (fr b))
def subt (a b : Bool × Nat × Nat) : Bool × Nat × Nat := resT (subc a b) (fsub (fr a) (fr b))
def mulc (a b : Bool × Nat × Nat) : Int := ncode a.2.1 a.2.2 b.2.1 b.2.2 0 (fmul (fr a) (fr b))
def mult (a b : Bool × Nat × Nat) : Bool × Nat × Nat := resT (mulc a b) (fmul (fr a) (fr b))
def divc (a b : Bool × Nat × Nat) : Int := ncode a.2.1 a.2.2 b.2.1 b.2.2 (if (fr b).2.1 = 0 then 10 else 0) (fmul (fr a) (finv (fr b)))
def divt (a b : Bool × Nat × Nat) : Bool × Nat × Nat := resT (divc a b) (fmul (fr a) (finv (fr b)))

theorem nAdd_u (v y : Value) (a b : Bool × Nat × Nat) (w : World) (h : NRep w v a) (hy : NRep w y b) (ht : TabOk w) :
    Calls Tryz.prog 157 #[v, y] w fun e w' => Below w.heap.size w w' ∧ URes w' e (addc a b) (addt a b) :=
  (nAdd_any v _ _ _ y _ _ _ w h hy ht).mono fun _ _ hR => ⟨hR.1, FRes.uni hR.2 fun h => (ncode_zero h).2.2.2⟩
theorem nSub_u (v y : Value) (a b : Bool × Nat × Nat) (w : World) (h : NRep w v a) (hy : NRep w y b) (ht : TabOk w) :
    Calls Tryz.prog 158 #[v, y] w fun e w' => Below w.heap.size w w' ∧ URes w' e (subc a b) (subt a b) :=
  (nSub_any v _ _ _ y _ _ _ w h hy ht).mono fun _ _ hR => ⟨hR.1, FRes.uni hR.2 fun h => (ncode_zero h).2.2.2⟩
theorem addt_Q {a b : Bool × Nat × Nat} {p q p' q' : Int} (h0 : addc a b = 0) (h : IsQ a p q) (h' : IsQ b p' q') : IsQ (addt a b) (p * q' + p' * q) (q * q') := by
  unfold addt resT
  rw [if_pos h0]
  exact out_IsQ (fadd_FQ (fq_FQ h) (fq_FQ h'))
theorem subt_Q {a b : Bool × Nat × Nat} {p q p' q' : Int} (h0 : subc a b = 0) (h : IsQ a p q) (h' : IsQ b p' q') : IsQ (subt a b) (p * q' + -p' * q) (q * q') := by
  unfold subt resT
  rw [if_pos h0]
  exact out_IsQ (fadd_FQ (fq_FQ h) (fneg_FQ (fq_FQ h')))
theorem mult_Q {a b : Bool × Nat × Nat} {p q p' q' : Int} (h0 : mulc a b = 0) (h : IsQ a p q) (h' : IsQ b p' q') : IsQ (mult a b) (p * p') (q * q') := by
  unfold mult resT
  rw [if_pos h0]
  exact out_IsQ (fmul_FQ (fq_FQ h) (fq_FQ h'))
theorem divt_Q {a b : Bool × Nat × Nat} {p q p' q' : Int} (h0 : divc a b = 0) (h : IsQ a p q) (h' : IsQ b p' q') : IsQ (divt a b) (p * q') (q * p') := by
  have h1 := (ncode_zero h0).2.2.1
  have hz : (fr b).2.1 ≠ 0 := fun hz => by rw [if_pos hz] at h1; exact absurd h1 (by decide)
  unfold divt resT
  rw [if_pos h0]
  exact out_IsQ (fmul_FQ (fq_FQ h) (finv_FQ (fq_FQ h') hz))

/-- Few words. -/
def Few (a : Bool × Nat × Nat) : Prop := a.2.1 < W32 ^ 256 ∧ a.2.2 < W32 ^ 256
theorem few_large {a : Bool × Nat × Nat} (h : large a.2.1 a.2.2 = false) : Few a := by
  unfold large at h
  rw [Bool.or_eq_false_iff] at h
  have := of_decide_eq_false h.1
  exact ⟨by omega, by omega⟩
theorem few_res {c : Int} {t : Bool × Nat × Nat} (h : c = 0 → big t.2.1 t.2.2 = false) : Few (resT c t) := by
  unfold resT
  have hw : W32 ^ 64 ≤ W32 ^ 256 := Nat.pow_le_pow_right W32_pos (by omega)
  split
  · rename_i h0
    have h2 := big_lt (h h0)
    have hd : den0 t.2.2 < W32 ^ 64 := by unfold den0; split; exact Nat.lt_of_le_of_lt (Nat.zero_le _) h2.2; exact h2.2
    exact ⟨Nat.lt_of_lt_of_le h2.1 hw, Nat.lt_of_lt_of_le hd hw⟩
  · have h0 : 0 < W32 ^ 256 := Nat.pow_pos W32_pos
    exact ⟨h0, h0⟩
theorem Few.four {n : Nat} (h : n < W32 ^ 256) : n < B16 ^ 400000000 := lt_16_4 h (by omega)
theorem Equal_u (v y : Value) (a b : Bool × Nat × Nat) (w : World) (h : NRep w v a) (hy : NRep w y b) (ha : Few a) (hb : Few b) (hS : SameQ a.1 a.2.1 a.2.2 b.1 b.2.1 b.2.2) :
    Calls Tryz.prog 103 #[v, y] w fun e w' => e = .returned (.bool true) ∧ Below w.heap.size w w' :=
  Equal_any v _ _ _ y _ _ _ w h hy (Few.four ha.1) (Few.four ha.2) (Few.four hb.1) (Few.four hb.2) hS
end Go.Proofs.YtgjjcmclikiojaaGreatDoor
namespace Go.Proofs.YtgjjcmclikiojaaGreatDoor
open Go.RowKit Dg

/-- What Sign and Compare give: the answer and the error. -/
def sgc (a : Bool × Nat × Nat) : Int := if large a.2.1 a.2.2 then 1 else 0
def sgt (a : Bool × Nat × Nat) : Int := if large a.2.1 a.2.2 then 0 else sgn (fr a).1 (fr a).2.1
def cmc (a b : Bool × Nat × Nat) : Int := if large a.2.1 a.2.2 || large b.2.1 b.2.2 then 1 else 0
def cmt (a b : Bool × Nat × Nat) : Int := if large a.2.1 a.2.2 || large b.2.1 b.2.2 then 0 else fcmp (fr a) (fr b)

theorem Of_large (v : Value) (a : Bool × Nat × Nat) (w : World) (h : NRep w v a) (ht : TabOk w) (hL : large a.2.1 a.2.2 = true) :
    Calls Tryz.prog 119 #[v] w fun e w' => e = .returned (.tuple #[.agg #[.bool false, .slice none 0 0, .slice none 0 0], .int .i64 1]) ∧ Below w.heap.size w w' := by
  refine (FracOf_open v _ _ _ w h ht).mono ?_
  rintro e w' ⟨hB, hR⟩
  rw [hL, if_pos rfl] at hR
  rcases hR with ⟨_, he⟩ | ⟨h0, _⟩
  · exact ⟨he, hB⟩
  · exact absurd h0 (by decide)
theorem Of_small (v : Value) (a : Bool × Nat × Nat) (w : World) (h : NRep w v a) (ht : TabOk w) (hL : large a.2.1 a.2.2 = false) :
    Calls Tryz.prog 119 #[v] w fun e w' => Below w.heap.size w w' ∧ ∃ sg pa ka ca pb kb cb, e = .returned (.tuple #[.agg #[.bool sg, .slice pa ka ca, .slice pb kb cb], .int .i64 0]) ∧ Hid (FNorm w' (.agg #[.bool sg, .slice pa ka ca, .slice pb kb cb]) (fr a)) := by
  refine (FracOf_open v _ _ _ w h ht).mono ?_
  rintro e w' ⟨hB, hR⟩
  rw [hL, if_neg (by decide)] at hR
  rcases hR with ⟨h0, _⟩ | ⟨_, h⟩
  · exact absurd rfl h0
  · exact ⟨hB, h⟩

end Go.Proofs.YtgjjcmclikiojaaGreatDoor
