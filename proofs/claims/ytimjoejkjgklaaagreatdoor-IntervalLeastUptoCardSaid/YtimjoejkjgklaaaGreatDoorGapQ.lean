/- GapQ: own parts. -/
import Derived.Test.YtimjoejkjgklaaaGreatDoorBthI
import Derived.Test.YtimjoejkjgklaaaGreatDoorHasU
import Derived.Test.YtimjoejkjgklaaaGreatDoorIsJ
import Derived.Test.YtimjoejkjgklaaaGreatDoorRowI
set_option maxHeartbeats 8000000
set_option maxRecDepth 100000
namespace Go.Proofs.YtimjoejkjgklaaaGreatDoor
open Go.RowKit Dg
open List (setIfInBounds_toArray set_cons_zero set_cons_succ)
theorem u8_bounds {n : Int} (h : (Lit.int .u8 n).wf = true) : 0 ≤ n ∧ n < 256 := by
 simp only [Lit.wf, Bool.and_eq_true, decide_eq_true_eq] at h
 rw [show IntKind.min .u8 = 0 by decide, show IntKind.max .u8 = 255 by decide] at h
 exact ⟨h.1, Int.lt_of_le_of_lt h.2 (by decide)⟩
def FQ (a : Bool × Nat × Nat) (p q : Int) : Prop := q ≠ 0 ∧ 0 < a.2.2 ∧ sv a.1 a.2.1 * q = p * (a.2.2 : Int)
theorem sv_sign (s : Bool) (n : Nat) (m : Nat) (h : n = 0 → m = 0) : sv (s && decide (n ≠ 0)) m = sv s m := by
 by_cases h0 : n = 0
 ·rw [h h0]; unfold sv; simp
 ·simp [h0]
theorem frac_FQ {s : Bool} {n d : Nat} {p q : Int} (hd : 0 < d) (hq : q ≠ 0) (h : sv s n * q = p * (d : Int)) : FQ (frac s n d) p q := by
 have hg0 : 0 < Nat.gcd n d := Nat.gcd_pos_of_pos_right _ hd
 obtain ⟨n', hn⟩ := Nat.gcd_dvd_left n d
 obtain ⟨d', hd'⟩ := Nat.gcd_dvd_right n d
 unfold FQ frac
 simp only
 generalize Nat.gcd n d = g at *
 subst hn hd'
 rw [Nat.mul_div_cancel_left _ hg0, Nat.mul_div_cancel_left _ hg0]
 refine ⟨hq, Nat.pos_of_mul_pos_left hd, ?_⟩
 rw [sv_sign _ _ _ (fun h => by rcases Nat.mul_eq_zero.1 h with h | h <;> omega)]
 rw [Nat.mul_comm g n', sv_mul, Nat.mul_comm g d', Int.natCast_mul] at h
 have hg : (g : Int) ≠ 0 := by omega
 have h2 : (g : Int) * (sv s n' * q) = (g : Int) * (p * (d' : Int)) := by
  calc (g : Int) * (sv s n' * q) = sv s n' * g * q := by grind
   _ = p * ((d' : Int) * g) := h
   _ = (g : Int) * (p * (d' : Int)) := by grind
 exact Int.eq_of_mul_eq_mul_left hg h2
theorem fneg_FQ {a : Bool × Nat × Nat} {p q : Int} (h : FQ a p q) : FQ (fneg a) (-p) q := by
 refine ⟨h.1, h.2.1, ?_⟩
 show sv (!a.1 && decide (a.2.1 ≠ 0)) a.2.1 * q = -p * (a.2.2 : Int)
 rw [sv_sign _ _ _ id]
 have h3 := h.2.2
 have : sv (!a.1) a.2.1 = - sv a.1 a.2.1 := by unfold sv; cases a.1 <;> simp
 rw [this, Int.neg_mul, Int.neg_mul, h3]
theorem fadd_FQ {a b : Bool × Nat × Nat} {p q p' q' : Int} (h : FQ a p q) (h' : FQ b p' q') : FQ (fadd a b) (p * q' + p' * q) (q * q') := by
 have hd := Nat.mul_pos h.2.1 h'.2.1
 have hq := Int.mul_ne_zero h.1 h'.1
 have h1 := h.2.2
 have h2 := h'.2.2
 have key : (sv a.1 a.2.1 * (b.2.2 : Int) + sv b.1 b.2.1 * (a.2.2 : Int)) * (q * q') = (p * q' + p' * q) * ((a.2.2 * b.2.2 : Nat) : Int) := by
  rw [Int.natCast_mul]
  calc (sv a.1 a.2.1 * (b.2.2 : Int) + sv b.1 b.2.1 * (a.2.2 : Int)) * (q * q') = (sv a.1 a.2.1 * q) * (b.2.2 : Int) * q' + (sv b.1 b.2.1 * q') * (a.2.2 : Int) * q := by grind
   _ = (p * (a.2.2 : Int)) * (b.2.2 : Int) * q' + (p' * (b.2.2 : Int)) * (a.2.2 : Int) * q := by rw [h1, h2]
   _ = (p * q' + p' * q) * ((a.2.2 : Int) * (b.2.2 : Int)) := by grind
 have go : ∀ (s : Bool) (n : Nat), sv s n = sv a.1 a.2.1 * (b.2.2 : Int) + sv b.1 b.2.1 * (a.2.2 : Int) → FQ (frac s n (a.2.2 * b.2.2)) (p * q' + p' * q) (q * q') := fun s n e =>
  frac_FQ hd hq (by rw [e]; exact key)
 unfold fadd
 split
 ·rename_i hs
  refine go _ _ ?_
  rw [← hs]
  unfold sv
  cases a.1 <;> simp [Int.neg_mul] <;> omega
 ·rename_i hs
  split
  ·rename_i hl
   refine go _ _ ?_
   have e1 : sv a.1 a.2.1 * (b.2.2 : Int) = sv a.1 (a.2.1 * b.2.2) := (sv_mul _ _ _).symm
   have e2 : sv b.1 b.2.1 * (a.2.2 : Int) = sv b.1 (b.2.1 * a.2.2) := (sv_mul _ _ _).symm
   rw [e1, e2]
   generalize a.2.1 * b.2.2 = X at *
   generalize b.2.1 * a.2.2 = Y at *
   unfold sv
   cases ha : a.1 <;> cases hb : b.1 <;> simp [ha, hb] at hs ⊢ <;> omega
  ·rename_i hl
   refine go _ _ ?_
   have e1 : sv a.1 a.2.1 * (b.2.2 : Int) = sv a.1 (a.2.1 * b.2.2) := (sv_mul _ _ _).symm
   have e2 : sv b.1 b.2.1 * (a.2.2 : Int) = sv b.1 (b.2.1 * a.2.2) := (sv_mul _ _ _).symm
   rw [e1, e2]
   generalize a.2.1 * b.2.2 = X at *
   generalize b.2.1 * a.2.2 = Y at *
   unfold sv
   cases ha : a.1 <;> cases hb : b.1 <;> simp [ha, hb] at hs ⊢ <;> omega
theorem cmpI_scale {a b k : Int} (hk : 0 < k) : cmpI (k * a) (k * b) = cmpI a b := by
 unfold cmpI
 rcases Int.lt_trichotomy a b with h | h | h
 ·rw [if_pos (Int.mul_lt_mul_of_pos_left h hk), if_pos h]
 ·subst h; simp
 ·have h2 := Int.mul_lt_mul_of_pos_left h hk
  rw [if_neg (show ¬ k * a < k * b by omega), if_pos h2, if_neg (show ¬ a < b by omega), if_pos h]
theorem fcmp_Q {a b : Bool × Nat × Nat} {p q p' q' : Int} (h : FQ a p q) (h' : FQ b p' q') (hq : 0 < q) (hq' : 0 < q') : fcmp a b = cmpI (p * q') (p' * q) := by
 unfold fcmp
 have h1 := h.2.2
 have h2 := h'.2.2
 have hd := h.2.1
 have hd' := h'.2.1
 rw [← cmpI_scale (Int.mul_pos hq hq'), ← cmpI_scale (a := p * q') (Int.mul_pos (show (0 : Int) < a.2.2 by omega) (show (0 : Int) < b.2.2 by omega))]
 have e1 : q * q' * (sv a.1 a.2.1 * (b.2.2 : Int)) = (a.2.2 : Int) * (b.2.2 : Int) * (p * q') := by
  calc q * q' * (sv a.1 a.2.1 * (b.2.2 : Int)) = (sv a.1 a.2.1 * q) * q' * (b.2.2 : Int) := by grind
   _ = (p * (a.2.2 : Int)) * q' * (b.2.2 : Int) := by rw [h1]
   _ = (a.2.2 : Int) * (b.2.2 : Int) * (p * q') := by grind
 have e2 : q * q' * (sv b.1 b.2.1 * (a.2.2 : Int)) = (a.2.2 : Int) * (b.2.2 : Int) * (p' * q) := by
  calc q * q' * (sv b.1 b.2.1 * (a.2.2 : Int)) = (sv b.1 b.2.1 * q') * q * (a.2.2 : Int) := by grind
   _ = (p' * (b.2.2 : Int)) * q * (a.2.2 : Int) := by rw [h2]
   _ = (a.2.2 : Int) * (b.2.2 : Int) * (p' * q) := by grind
 rw [e1, e2]
theorem QQ.s_1_8 {w w' : World} {B0 B1 : Nat} {a0_0 a1_0 a1_1 a1_2 a1_3 a1_4 a1_5 a1_6 a1_7 : Value} (h : QQ w [(B0, [a0_0]), (B1, [a1_0, a1_1, a1_2, a1_3, a1_4, a1_5, a1_6, a1_7])] w') : w'.cell? ⟨B0, 0, none⟩ = some a0_0 ∧ w'.cell? ⟨B1, 0, none⟩ = some a1_0 ∧ w'.cell? ⟨B1, 1, none⟩ = some a1_1 ∧ w'.cell? ⟨B1, 2, none⟩ = some a1_2 ∧ w'.cell? ⟨B1, 3, none⟩ = some a1_3 ∧ w'.cell? ⟨B1, 4, none⟩ = some a1_4 ∧ w'.cell? ⟨B1, 5, none⟩ = some a1_5 ∧ w'.cell? ⟨B1, 6, none⟩ = some a1_6 ∧ w'.cell? ⟨B1, 7, none⟩ = some a1_7 ∧ Hid (QQ w [(B0, [a0_0]), (B1, [a1_0, a1_1, a1_2, a1_3, a1_4, a1_5, a1_6, a1_7])] w') := ⟨h.b1.cells1.1, h.b2.cells8.1, h.b2.cells8.2.1, h.b2.cells8.2.2.1, h.b2.cells8.2.2.2.1, h.b2.cells8.2.2.2.2.1, h.b2.cells8.2.2.2.2.2.1, h.b2.cells8.2.2.2.2.2.2.1, h.b2.cells8.2.2.2.2.2.2.2.1, hid h⟩
theorem QQ.s_8_1 {w w' : World} {B0 B1 : Nat} {a0_0 a0_1 a0_2 a0_3 a0_4 a0_5 a0_6 a0_7 a1_0 : Value} (h : QQ w [(B0, [a0_0, a0_1, a0_2, a0_3, a0_4, a0_5, a0_6, a0_7]), (B1, [a1_0])] w') : w'.cell? ⟨B0, 0, none⟩ = some a0_0 ∧ w'.cell? ⟨B0, 1, none⟩ = some a0_1 ∧ w'.cell? ⟨B0, 2, none⟩ = some a0_2 ∧ w'.cell? ⟨B0, 3, none⟩ = some a0_3 ∧ w'.cell? ⟨B0, 4, none⟩ = some a0_4 ∧ w'.cell? ⟨B0, 5, none⟩ = some a0_5 ∧ w'.cell? ⟨B0, 6, none⟩ = some a0_6 ∧ w'.cell? ⟨B0, 7, none⟩ = some a0_7 ∧ w'.cell? ⟨B1, 0, none⟩ = some a1_0 ∧ Hid (QQ w [(B0, [a0_0, a0_1, a0_2, a0_3, a0_4, a0_5, a0_6, a0_7]), (B1, [a1_0])] w') := ⟨h.b1.cells8.1, h.b1.cells8.2.1, h.b1.cells8.2.2.1, h.b1.cells8.2.2.2.1, h.b1.cells8.2.2.2.2.1, h.b1.cells8.2.2.2.2.2.1, h.b1.cells8.2.2.2.2.2.2.1, h.b1.cells8.2.2.2.2.2.2.2.1, h.b2.cells1.1, hid h⟩
theorem mustR_err (s : Bool) (p : Option Addr) (k c : Nat) (q : Option Addr) (l d : Nat) (er : Int) (h : er ≠ 0) (w : World) :
  Calls Tryz.prog 125 #[.agg #[.bool s, .slice p k c, .slice q l d], .int .i64 er] w fun e w' => e = pan er ∧ Below w.heap.size w w' := by
 go_enter Tryz.func125, Tryz.ntmps125
 have hz : (er == 0) = false := by simpa using h
 clear h
 go_wp2_with fail
 refine (unless_no er _).mono ?_
 rintro e w1 ⟨rfl, rfl⟩
 exact ⟨rfl, rfl, below_alloc2 _ _ _⟩
theorem sv_botn (s : Bool) (n : Nat) {D P : Nat} (hD : 0 < D) : sv s (botn (s, n * P, D)) * (D : Int) ≤ sv s n * (P : Int) ∧ sv s n * (P : Int) < (sv s (botn (s, n * P, D)) + 1) * (D : Int) := by
 have h1 := Nat.div_add_mod (n * P) D
 have h2 := Nat.mod_lt (n * P) hD
 have e0 : ((n * P : Nat) : Int) = (n : Int) * (P : Int) := Int.natCast_mul n P
 generalize n * P = X at *
 generalize hr : X % D = r at *
 generalize hq : X / D = q at *
 have e1 : (X : Int) = (D : Int) * q + r := by rw [← h1]; push_cast; rfl
 cases s
 ·have hb : botn (false, X, D) = q := by unfold botn; rw [if_neg (by simp)]; exact hq
  rw [hb]
  show (q : Int) * D ≤ (n : Int) * P ∧ (n : Int) * P < ((q : Int) + 1) * D
  rw [← e0, e1, Int.add_mul, Int.one_mul, Int.mul_comm (q : Int)]
  omega
 ·by_cases h0 : r = 0
  ·have hb : botn (true, X, D) = q := by unfold botn; rw [if_neg (by simp only; rw [hr]; simp [h0])]; exact hq
   rw [hb]
   show -(q : Int) * D ≤ -(n : Int) * P ∧ -(n : Int) * P < (-(q : Int) + 1) * D
   rw [Int.neg_mul, Int.neg_mul, ← e0, e1, Int.add_mul, Int.one_mul, Int.neg_mul, Int.mul_comm (q : Int)]
   omega
  ·have hb : botn (true, X, D) = q + 1 := by unfold botn; rw [if_pos ⟨rfl, by simp only; rw [hr]; exact h0⟩]; exact congrArg (· + 1) hq
   rw [hb]
   show -((q + 1 : Nat) : Int) * D ≤ -(n : Int) * P ∧ -(n : Int) * P < (-((q + 1 : Nat) : Int) + 1) * D
   have e2 : ((q + 1 : Nat) : Int) = (q : Int) + 1 := by omega
   rw [e2, Int.neg_mul, Int.neg_mul, ← e0, e1, Int.add_mul, Int.one_mul, show -((q : Int) + 1) + 1 = -(q : Int) by omega, Int.neg_mul, Int.mul_comm (q : Int)]
   omega
theorem two_ne (p : Nat) : ((2 ^ p : Nat) : Int) ≠ 0 := by have : 0 < 2 ^ p := Nat.pow_pos (by decide); omega
theorem gdn_FQ (t : Bool × Nat × Nat) (p : Nat) : FQ (gdn t p) (sv t.1 (botn (t.1, t.2.1 * 2 ^ p, t.2.2))) ((2 ^ p : Nat) : Int) :=
 frac_FQ (Nat.pow_pos (by decide)) (two_ne p) rfl
theorem steps_math {t : Bool × Nat × Nat} {P p : Nat} (hP : P = 2 ^ p) (hD : 0 < t.2.2) : ∃ A U : Int, FQ (gdn t p) A (P : Int) ∧ FQ (gup t p) U (P : Int) ∧
  A * (t.2.2 : Int) ≤ sv t.1 t.2.1 * (P : Int) ∧ sv t.1 t.2.1 * (P : Int) < (A + 1) * (t.2.2 : Int) ∧ (U - 1) * (t.2.2 : Int) < sv t.1 t.2.1 * (P : Int) ∧ sv t.1 t.2.1 * (P : Int) ≤ U * (t.2.2 : Int) := by
 have h1 := sv_botn t.1 t.2.1 (P := P) hD
 have h2 := sv_botn (fneg t).1 t.2.1 (P := P) hD
 have e : sv (fneg t).1 t.2.1 = -sv t.1 t.2.1 := by
  show sv (!t.1 && decide (t.2.1 ≠ 0)) t.2.1 = _
  rw [sv_sign _ _ _ (fun h => h)]
  cases t.1 <;> simp [sv]
 rw [e] at h2
 refine ⟨_, _, hP ▸ gdn_FQ t p, hP ▸ fneg_FQ (gdn_FQ (fneg t) p), h1.1, h1.2, ?_, ?_⟩
 ·have h3 := h2.2
  rw [show (fneg t).2.1 = t.2.1 from rfl, show (fneg t).2.2 = t.2.2 from rfl]
  generalize sv (fneg t).1 (botn ((fneg t).1, t.2.1 * P, t.2.2)) = B at *
  rw [Int.neg_mul] at h3
  have e3 : (-B - 1) * (t.2.2 : Int) = -((B + 1) * (t.2.2 : Int)) := by rw [← Int.neg_mul]; congr 1; omega
  rw [e3]
  omega
 ·have h3 := h2.1
  rw [show (fneg t).2.1 = t.2.1 from rfl, show (fneg t).2.2 = t.2.2 from rfl]
  generalize sv (fneg t).1 (botn ((fneg t).1, t.2.1 * P, t.2.2)) = B at *
  rw [Int.neg_mul] at h3
  rw [Int.neg_mul]
  omega
theorem ask1I_ret {W : World} {B : Nat} {a0 a1 a2 a3 a4 a5 a6 a7 : Value} {tm : Array Value} {R : Ending → World → Prop} (h2 : tm[2]?.getD undef = .pointer (some ⟨B, 0, none⟩)) (hV : Box W B #[a0, a1, a2, a3, a4, a5, a6, a7]) (hR : R (.returned (.agg #[a0, a1, a2, a3, a4, a5, a6, a7])) W) :
  bodyPost Tryz.prog Tryz.f95 R .ret { tmps := tm, defers := [] } W := by
 obtain ⟨g0, g1, g2, g3, g4, g5, g6, g7, _⟩ := hV.cells8
 exact bodyPost_ret (v := .agg #[a0, a1, a2, a3, a4, a5, a6, a7]) (by simp [results, Tryz.results95, go_sem, h2, g0, g1, g2, g3, g4, g5, g6, g7]) rfl hR
theorem ask1I_ok (Bo Ba : Nat) (s1 : Bool) (p1 : Option Addr) (k1 c1 : Nat) (q1 : Option Addr) (l1 d1 : Nat) (sz1 : Bool) (pz1 : Option Addr) (kz1 cz1 : Nat) (qz1 : Option Addr) (lz1 dz1 : Nat) (x1 : Bool) (y1 : Bool) (g : FuncId) (cap : Array Value) (a b : Bool × Nat × Nat) (D : (Bool × Nat × Nat) × (Bool × Nat × Nat) × Bool × Bool) (w : World)
  (hBo : Box w Bo #[.func (.func g) #[] cap]) (hBa : Box w Ba #[.bool s1, .slice p1 k1 c1, .slice q1 l1 d1, .bool sz1, .slice pz1 kz1 cz1, .slice qz1 lz1 dz1, .bool x1, .bool y1]) (ha : NRep w (.agg #[.bool s1, .slice p1 k1 c1, .slice q1 l1 d1]) a) (hb : NRep w (.agg #[.bool sz1, .slice pz1 kz1 cz1, .slice qz1 lz1 dz1]) b) (h1 : large a.2.1 a.2.2 = false) (h2 : large b.2.1 b.2.2 = false) (ht : TabOk w)
  (hfn : ∀ args W, (callFunc g args).run Tryz.prog W = .ok (.enter g args) W)
  (hop : ∀ W (i3 : Int) (s3 : Bool) (p3 : Option Addr) (k3 c3 : Nat) (q3 : Option Addr) (l3 d3 : Nat) (j3 : Int) (sz3 : Bool) (pz3 : Option Addr) (kz3 cz3 : Nat) (qz3 : Option Addr) (lz3 dz3 : Nat) (e3 : Bool), Below w.heap.size w W → SRep W (.agg #[.int .i64 i3, .bool s3, .slice p3 k3 c3, .slice q3 l3 d3, .int .i64 j3, .bool sz3, .slice pz3 kz3 cz3, .slice qz3 lz3 dz3, .bool e3]) (srd (a, b, x1, y1)) → Calls Tryz.prog g (#[.agg #[.int .i64 i3, .bool s3, .slice p3 k3 c3, .slice q3 l3 d3, .int .i64 j3, .bool sz3, .slice pz3 kz3 cz3, .slice qz3 lz3 dz3, .bool e3]] ++ cap) W fun e w' => ∃ s5 p5 k5 c5 q5 l5 d5 sz5 pz5 kz5 cz5 qz5 lz5 dz5 x5 y5, e = .returned (.agg #[.bool s5, .slice p5 k5 c5, .slice q5 l5 d5, .bool sz5, .slice pz5 kz5 cz5, .slice qz5 lz5 dz5, .bool x5, .bool y5]) ∧ Hid (GRep w' (.agg #[.bool s5, .slice p5 k5 c5, .slice q5 l5 d5, .bool sz5, .slice pz5 kz5 cz5, .slice qz5 lz5 dz5, .bool x5, .bool y5]) D) ∧ Below W.heap.size W w') :
  Calls Tryz.prog 95 #[.pointer (some ⟨Bo, 0, none⟩), .pointer (some ⟨Ba, 0, none⟩)] w fun e w' => ∃ s5 p5 k5 c5 q5 l5 d5 sz5 pz5 kz5 cz5 qz5 lz5 dz5 x5 y5, e = .returned (.agg #[.bool s5, .slice p5 k5 c5, .slice q5 l5 d5, .bool sz5, .slice pz5 kz5 cz5, .slice qz5 lz5 dz5, .bool x5, .bool y5]) ∧ Hid (GRep w' (.agg #[.bool s5, .slice p5 k5 c5, .slice q5 l5 d5, .bool sz5, .slice pz5 kz5 cz5, .slice qz5 lz5 dz5, .bool x5, .bool y5]) D) ∧ Below w.heap.size w w' := by
 have HR := hid (fun (W : World) (hW : Below w.heap.size w W) => readSet_ok s1 p1 k1 c1 q1 l1 d1 sz1 pz1 kz1 cz1 qz1 lz1 dz1 x1 y1 a b W (ha.below hW) (hb.below hW) h1 h2 (ht.below hW))
 have HO := hid hop
 clear ha hb h1 h2 ht hop
 have hlo := hBo.lt
 have hla := hBa.lt
 go_enter Tryz.func95, Tryz.ntmps95
 go_upto_region 1 with fail
 generalize hA : World.alloc _ _ = W0
 have HV := hid (pre1_o hA nd8)
 clear hA
 have HQ := hid (QQ.i2 (cs := [.func (.func g) #[] cap]) (cs' := [.bool s1, .slice p1 k1 c1, .slice q1 l1 d1, .bool sz1, .slice pz1 kz1 cz1, .slice qz1 lz1 dz1, .bool x1, .bool y1]) (hBo.below HV.out.2) (hBa.below HV.out.2) HV.out.2)
 have HN : Hid (Apart [(Bo, [.func (.func g) #[] cap]), (Ba, [.bool s1, .slice p1 k1 c1, .slice q1 l1 d1, .bool sz1, .slice pz1 kz1 cz1, .slice qz1 lz1 dz1, .bool x1, .bool y1])] w.heap.size) := hid (ne2 (by omega) (by omega))
 have HI : Hid (w.heap.size ≤ w.heap.size) := hid (Nat.le_refl _)
 clear hBo hBa
 have HS := hid (fun (w' : World) (hb : QQ w [(Bo, [.func (.func g) #[] cap]), (Ba, [.bool s1, .slice p1 k1 c1, .slice q1 l1 d1, .bool sz1, .slice pz1 kz1 cz1, .slice qz1 lz1 dz1, .bool x1, .bool y1])] w') => hb.s_1_8)
 go_region_held3 (fun w' => w'.cell? ⟨Bo, 0, none⟩ = some (.func (.func g) #[] cap) ∧ w'.cell? ⟨Ba, 0, none⟩ = some (.bool s1) ∧ w'.cell? ⟨Ba, 1, none⟩ = some (.slice p1 k1 c1) ∧ w'.cell? ⟨Ba, 2, none⟩ = some (.slice q1 l1 d1) ∧ w'.cell? ⟨Ba, 3, none⟩ = some (.bool sz1) ∧ w'.cell? ⟨Ba, 4, none⟩ = some (.slice pz1 kz1 cz1) ∧ w'.cell? ⟨Ba, 5, none⟩ = some (.slice qz1 lz1 dz1) ∧ w'.cell? ⟨Ba, 6, none⟩ = some (.bool x1) ∧ w'.cell? ⟨Ba, 7, none⟩ = some (.bool y1) ∧ Hid (QQ w [(Bo, [.func (.func g) #[] cap]), (Ba, [.bool s1, .slice p1 k1 c1, .slice q1 l1 d1, .bool sz1, .slice pz1 kz1 cz1, .slice qz1 lz1 dz1, .bool x1, .bool y1])] w'))
  (first | (refine HS.out _ ?_; first | (with_reducible exact HQ.out.drew) | (with_reducible assumption) | (with_reducible refine QQ.st8 ?_ HN.out HI.out; assumption)))
  (first
   | (go_at_call 96; refine (HR.out _ HQ.out.drew.bel).mono ?_; rintro e wa ⟨i3, s3, p3, k3, c3, q3, l3, d3, j3, sz3, pz3, kz3, cz3, qz3, lz3, dz3, e3, rfl, hS, hB1⟩; have hQ1 := HQ.out.drew.call hB1; have hV1 := (HV.out.1.drew).below hB1)
   | (refine (HO.out _ i3 s3 p3 k3 c3 q3 l3 d3 j3 sz3 pz3 kz3 cz3 qz3 lz3 dz3 e3 hQ1.bel hS.out).mono ?_; rintro e wb ⟨s5, p5, k5, c5, q5, l5, d5, sz5, pz5, kz5, cz5, qz5, lz5, dz5, x5, y5, rfl, hG, hB2⟩; have hQ2 := hQ1.call hB2; have hV2 := hV1.below hB2; obtain ⟨g0, g1, g2, g3, g4, g5, g6, g7, f0, f1, f2, f3, f4, f5, f6, f7⟩ := hV2.cells8))
 rename_i hHeld
 clear hHeld
 have HE := hid (And.intro hV2 (And.intro hG.out hQ2.bel))
 clear hQ1 hQ2 hB1 hB2 hS hV1 hV2 hG
 go_wp2_with fail
 exact ask1I_ret rfl (HE.out.1.stores [.bool s5, .slice p5 k5 c5, .slice q5 l5 d5, .bool sz5, .slice pz5 kz5 cz5, .slice qz5 lz5 dz5, .bool x5, .bool y5] rfl nd8) ⟨s5, p5, k5, c5, q5, l5, d5, sz5, pz5, kz5, cz5, qz5, lz5, dz5, x5, y5, rfl, hid (GRep.stores (k := 0) (l := [.bool s5, .slice p5 k5 c5, .slice q5 l5 d5, .bool sz5, .slice pz5 kz5 cz5, .slice qz5 lz5 dz5, .bool x5, .bool y5]) HE.out.2.1 HE.out.1 nd8), Below.stores (k := 0) (l := [.bool s5, .slice p5 k5 c5, .slice q5 l5 d5, .bool sz5, .slice pz5 kz5 cz5, .slice qz5 lz5 dz5, .bool x5, .bool y5]) HE.out.2.2 (Nat.le_refl _)⟩
theorem ask1I_large (Bo Ba : Nat) (s1 : Bool) (p1 : Option Addr) (k1 c1 : Nat) (q1 : Option Addr) (l1 d1 : Nat) (sz1 : Bool) (pz1 : Option Addr) (kz1 cz1 : Nat) (qz1 : Option Addr) (lz1 dz1 : Nat) (x1 : Bool) (y1 : Bool) (g : FuncId) (cap : Array Value) (a b : Bool × Nat × Nat) (w : World)
  (hBo : Box w Bo #[.func (.func g) #[] cap]) (hBa : Box w Ba #[.bool s1, .slice p1 k1 c1, .slice q1 l1 d1, .bool sz1, .slice pz1 kz1 cz1, .slice qz1 lz1 dz1, .bool x1, .bool y1]) (ha : NRep w (.agg #[.bool s1, .slice p1 k1 c1, .slice q1 l1 d1]) a) (hb : NRep w (.agg #[.bool sz1, .slice pz1 kz1 cz1, .slice qz1 lz1 dz1]) b) (h1 : (large a.2.1 a.2.2 || large b.2.1 b.2.2) = true) (ht : TabOk w) :
  Calls Tryz.prog 95 #[.pointer (some ⟨Bo, 0, none⟩), .pointer (some ⟨Ba, 0, none⟩)] w fun e w' => e = pan 1 ∧ Below w.heap.size w w' := by
 have HR := hid (fun (W : World) (hW : Below w.heap.size w W) => readSet_pan s1 p1 k1 c1 q1 l1 d1 sz1 pz1 kz1 cz1 qz1 lz1 dz1 x1 y1 a b W (ha.below hW) (hb.below hW) h1 (ht.below hW))
 clear ha hb h1 ht
 have hlo := hBo.lt
 have hla := hBa.lt
 go_enter Tryz.func95, Tryz.ntmps95
 go_upto_region 1 with fail
 generalize hA : World.alloc _ _ = W0
 have HV := hid (pre1_o hA nd8)
 clear hA
 have HQ := hid (QQ.i2 (cs := [.func (.func g) #[] cap]) (cs' := [.bool s1, .slice p1 k1 c1, .slice q1 l1 d1, .bool sz1, .slice pz1 kz1 cz1, .slice qz1 lz1 dz1, .bool x1, .bool y1]) (hBo.below HV.out.2) (hBa.below HV.out.2) HV.out.2)
 have HN : Hid (Apart [(Bo, [.func (.func g) #[] cap]), (Ba, [.bool s1, .slice p1 k1 c1, .slice q1 l1 d1, .bool sz1, .slice pz1 kz1 cz1, .slice qz1 lz1 dz1, .bool x1, .bool y1])] w.heap.size) := hid (ne2 (by omega) (by omega))
 have HI : Hid (w.heap.size ≤ w.heap.size) := hid (Nat.le_refl _)
 clear hBo hBa
 have HS := hid (fun (w' : World) (hb : QQ w [(Bo, [.func (.func g) #[] cap]), (Ba, [.bool s1, .slice p1 k1 c1, .slice q1 l1 d1, .bool sz1, .slice pz1 kz1 cz1, .slice qz1 lz1 dz1, .bool x1, .bool y1])] w') => hb.s_1_8)
 refine wp_region_held_drew (S := (fun w' => w'.cell? ⟨Bo, 0, none⟩ = some (.func (.func g) #[] cap) ∧ w'.cell? ⟨Ba, 0, none⟩ = some (.bool s1) ∧ w'.cell? ⟨Ba, 1, none⟩ = some (.slice p1 k1 c1) ∧ w'.cell? ⟨Ba, 2, none⟩ = some (.slice q1 l1 d1) ∧ w'.cell? ⟨Ba, 3, none⟩ = some (.bool sz1) ∧ w'.cell? ⟨Ba, 4, none⟩ = some (.slice pz1 kz1 cz1) ∧ w'.cell? ⟨Ba, 5, none⟩ = some (.slice qz1 lz1 dz1) ∧ w'.cell? ⟨Ba, 6, none⟩ = some (.bool x1) ∧ w'.cell? ⟨Ba, 7, none⟩ = some (.bool y1) ∧ Hid (QQ w [(Bo, [.func (.func g) #[] cap]), (Ba, [.bool s1, .slice p1 k1 c1, .slice q1 l1 d1, .bool sz1, .slice pz1 kz1 cz1, .slice qz1 lz1 dz1, .bool x1, .bool y1])] w'))) (by kernel_rfl) (HS.out _ HQ.out.drew) (fun hHeld => ?_)
 refine wpAnyH_take (i := 0) (v := ?vv0) rfl (by kernel_rfl) (by kernel_rfl) (by kernel_rfl) (fun _ _ _ h => h) (Or.inl ⟨by rfl, ?hy0⟩) (by assumption) ?_
 case hy0 => (intro w' hSw; (try dsimp only at hSw); go_simp; first | done | with_reducible rfl)
 simp only [Act.put]
 refine wpAnyH_take (i := 1) (v := ?vv1) rfl (by kernel_rfl) (by kernel_rfl) (by kernel_rfl) (fun _ _ _ h => h) (Or.inl ⟨by rfl, ?hy1⟩) (by assumption) ?_
 case hy1 => (intro w' hSw; (try dsimp only at hSw); go_simp; first | done | with_reducible rfl)
 simp only [Act.put]
 refine wpAnyH_ready (rs := [2]) (by kernel_rfl) (by simp) ?_
 refine .cons rfl (fun K hK => ?_) .nil
 go_simp
 go_at_call 96
 refine (HR.out _ HQ.out.drew.bel).mono ?_
 rintro e wa ⟨rfl, hB1⟩
 exact ⟨rfl, rfl, (HQ.out.drew.call hB1).bel⟩
theorem ask1I_err (Bo Ba : Nat) (s1 : Bool) (p1 : Option Addr) (k1 c1 : Nat) (q1 : Option Addr) (l1 d1 : Nat) (sz1 : Bool) (pz1 : Option Addr) (kz1 cz1 : Nat) (qz1 : Option Addr) (lz1 dz1 : Nat) (x1 : Bool) (y1 : Bool) (g : FuncId) (cap : Array Value) (a b : Bool × Nat × Nat) (r : Int) (w : World)
  (hBo : Box w Bo #[.func (.func g) #[] cap]) (hBa : Box w Ba #[.bool s1, .slice p1 k1 c1, .slice q1 l1 d1, .bool sz1, .slice pz1 kz1 cz1, .slice qz1 lz1 dz1, .bool x1, .bool y1]) (ha : NRep w (.agg #[.bool s1, .slice p1 k1 c1, .slice q1 l1 d1]) a) (hb : NRep w (.agg #[.bool sz1, .slice pz1 kz1 cz1, .slice qz1 lz1 dz1]) b) (h1 : large a.2.1 a.2.2 = false) (h2 : large b.2.1 b.2.2 = false) (ht : TabOk w)
  (hfn : ∀ args W, (callFunc g args).run Tryz.prog W = .ok (.enter g args) W)
  (hop : ∀ W (i3 : Int) (s3 : Bool) (p3 : Option Addr) (k3 c3 : Nat) (q3 : Option Addr) (l3 d3 : Nat) (j3 : Int) (sz3 : Bool) (pz3 : Option Addr) (kz3 cz3 : Nat) (qz3 : Option Addr) (lz3 dz3 : Nat) (e3 : Bool), Below w.heap.size w W → SRep W (.agg #[.int .i64 i3, .bool s3, .slice p3 k3 c3, .slice q3 l3 d3, .int .i64 j3, .bool sz3, .slice pz3 kz3 cz3, .slice qz3 lz3 dz3, .bool e3]) (srd (a, b, x1, y1)) → Calls Tryz.prog g (#[.agg #[.int .i64 i3, .bool s3, .slice p3 k3 c3, .slice q3 l3 d3, .int .i64 j3, .bool sz3, .slice pz3 kz3 cz3, .slice qz3 lz3 dz3, .bool e3]] ++ cap) W fun e w' => e = pan r ∧ Below W.heap.size W w') :
  Calls Tryz.prog 95 #[.pointer (some ⟨Bo, 0, none⟩), .pointer (some ⟨Ba, 0, none⟩)] w fun e w' => e = pan r ∧ Below w.heap.size w w' := by
 have HR := hid (fun (W : World) (hW : Below w.heap.size w W) => readSet_ok s1 p1 k1 c1 q1 l1 d1 sz1 pz1 kz1 cz1 qz1 lz1 dz1 x1 y1 a b W (ha.below hW) (hb.below hW) h1 h2 (ht.below hW))
 have HO := hid hop
 clear ha hb h1 h2 ht hop
 have hlo := hBo.lt
 have hla := hBa.lt
 go_enter Tryz.func95, Tryz.ntmps95
 go_upto_region 1 with fail
 generalize hA : World.alloc _ _ = W0
 have HV := hid (pre1_o hA nd8)
 clear hA
 have HQ := hid (QQ.i2 (cs := [.func (.func g) #[] cap]) (cs' := [.bool s1, .slice p1 k1 c1, .slice q1 l1 d1, .bool sz1, .slice pz1 kz1 cz1, .slice qz1 lz1 dz1, .bool x1, .bool y1]) (hBo.below HV.out.2) (hBa.below HV.out.2) HV.out.2)
 have HN : Hid (Apart [(Bo, [.func (.func g) #[] cap]), (Ba, [.bool s1, .slice p1 k1 c1, .slice q1 l1 d1, .bool sz1, .slice pz1 kz1 cz1, .slice qz1 lz1 dz1, .bool x1, .bool y1])] w.heap.size) := hid (ne2 (by omega) (by omega))
 have HI : Hid (w.heap.size ≤ w.heap.size) := hid (Nat.le_refl _)
 clear hBo hBa
 have HS := hid (fun (w' : World) (hb : QQ w [(Bo, [.func (.func g) #[] cap]), (Ba, [.bool s1, .slice p1 k1 c1, .slice q1 l1 d1, .bool sz1, .slice pz1 kz1 cz1, .slice qz1 lz1 dz1, .bool x1, .bool y1])] w') => hb.s_1_8)
 refine wp_region_held_drew (S := (fun w' => w'.cell? ⟨Bo, 0, none⟩ = some (.func (.func g) #[] cap) ∧ w'.cell? ⟨Ba, 0, none⟩ = some (.bool s1) ∧ w'.cell? ⟨Ba, 1, none⟩ = some (.slice p1 k1 c1) ∧ w'.cell? ⟨Ba, 2, none⟩ = some (.slice q1 l1 d1) ∧ w'.cell? ⟨Ba, 3, none⟩ = some (.bool sz1) ∧ w'.cell? ⟨Ba, 4, none⟩ = some (.slice pz1 kz1 cz1) ∧ w'.cell? ⟨Ba, 5, none⟩ = some (.slice qz1 lz1 dz1) ∧ w'.cell? ⟨Ba, 6, none⟩ = some (.bool x1) ∧ w'.cell? ⟨Ba, 7, none⟩ = some (.bool y1) ∧ Hid (QQ w [(Bo, [.func (.func g) #[] cap]), (Ba, [.bool s1, .slice p1 k1 c1, .slice q1 l1 d1, .bool sz1, .slice pz1 kz1 cz1, .slice qz1 lz1 dz1, .bool x1, .bool y1])] w'))) (by kernel_rfl) (HS.out _ HQ.out.drew) (fun hHeld => ?_)
 refine wpAnyH_take (i := 0) (v := ?vv0) rfl (by kernel_rfl) (by kernel_rfl) (by kernel_rfl) (fun _ _ _ h => h) (Or.inl ⟨by rfl, ?hy0⟩) (by assumption) ?_
 case hy0 => (intro w' hSw; (try dsimp only at hSw); go_simp; first | done | with_reducible rfl)
 simp only [Act.put]
 refine wpAnyH_take (i := 1) (v := ?vv1) rfl (by kernel_rfl) (by kernel_rfl) (by kernel_rfl) (fun _ _ _ h => h) (Or.inl ⟨by rfl, ?hy1⟩) (by assumption) ?_
 case hy1 => (intro w' hSw; (try dsimp only at hSw); go_simp; first | done | with_reducible rfl)
 simp only [Act.put]
 refine wpAnyH_ready (rs := [2]) (by kernel_rfl) (by simp) ?_
 refine .cons rfl (fun K hK => ?_) .nil
 go_simp
 go_at_call 96
 refine (HR.out _ HQ.out.drew.bel).mono ?_
 rintro e wa ⟨i3, s3, p3, k3, c3, q3, l3, d3, j3, sz3, pz3, kz3, cz3, qz3, lz3, dz3, e3, rfl, hS, hB1⟩
 have hQ1 := HQ.out.drew.call hB1
 go_wp2_with fail
 refine hK.out _ _ ?_ (fun hHeld => ?_)
 ·exact HS.out _ (hQ1)
 clear hK K
 try simp only [Act.put, setIfInBounds_toArray, set_cons_zero, set_cons_succ]
 refine wpAnyH_ready (rs := [3]) (by kernel_rfl) (by simp) ?_
 refine .cons rfl (fun K hK => ?_) .nil
 go_simp
 refine (HO.out _ i3 s3 p3 k3 c3 q3 l3 d3 j3 sz3 pz3 kz3 cz3 qz3 lz3 dz3 e3 hQ1.bel hS.out).mono ?_
 rintro e wb ⟨rfl, hB2⟩
 exact ⟨rfl, rfl, (hQ1.call hB2).bel⟩
theorem enter_ask1I (args : Array Value) (w : World) : (callFunc 95 args).run Tryz.prog w = .ok (.enter 95 args) w := call_enter Tryz.func95 (by kernel_rfl) rfl args w
theorem askI_ret {W : World} {B : Nat} {a0 a1 a2 a3 a4 a5 a6 a7 ev : Value} {tm : Array Value} {R : Ending → World → Prop} (h2 : tm[4]?.getD undef = .pointer (some ⟨B, 0, none⟩)) (h3 : tm[5]?.getD undef = ev) (hV : Box W B #[a0, a1, a2, a3, a4, a5, a6, a7]) (hR : R (.returned (.tuple #[.agg #[a0, a1, a2, a3, a4, a5, a6, a7], ev])) W) :
  bodyPost Tryz.prog Tryz.f43 R .ret { tmps := tm, defers := [] } W := by
 obtain ⟨g0, g1, g2, g3, g4, g5, g6, g7, _⟩ := hV.cells8
 exact bodyPost_ret (v := .tuple #[.agg #[a0, a1, a2, a3, a4, a5, a6, a7], ev]) (by simp [results, Tryz.results43, go_sem, h2, h3, g0, g1, g2, g3, g4, g5, g6, g7]) rfl hR
theorem askI_any (s1 : Bool) (p1 : Option Addr) (k1 c1 : Nat) (q1 : Option Addr) (l1 d1 : Nat) (sz1 : Bool) (pz1 : Option Addr) (kz1 cz1 : Nat) (qz1 : Option Addr) (lz1 dz1 : Nat) (x1 : Bool) (y1 : Bool) (g : FuncId) (cap : Array Value) (D : (Bool × Nat × Nat) × (Bool × Nat × Nat) × Bool × Bool) (c : Int) (w : World)
  (hcl : ∀ W, Below w.heap.size w W → Box W w.heap.size #[.bool s1, .slice p1 k1 c1, .slice q1 l1 d1, .bool sz1, .slice pz1 kz1 cz1, .slice qz1 lz1 dz1, .bool x1, .bool y1] → Box W (w.heap.size + 1) #[.func (.func g) #[] cap] →
   Calls Tryz.prog 94 #[.func (.func 95) #[] #[.pointer (some ⟨w.heap.size + 1, 0, none⟩), .pointer (some ⟨w.heap.size, 0, none⟩)]] W fun e w' => ∃ s5 p5 k5 c5 q5 l5 d5 sz5 pz5 kz5 cz5 qz5 lz5 dz5 x5 y5, e = .returned (.tuple #[.agg #[.bool s5, .slice p5 k5 c5, .slice q5 l5 d5, .bool sz5, .slice pz5 kz5 cz5, .slice qz5 lz5 dz5, .bool x5, .bool y5], .int .i64 c]) ∧ Hid (GRep w' (.agg #[.bool s5, .slice p5 k5 c5, .slice q5 l5 d5, .bool sz5, .slice pz5 kz5 cz5, .slice qz5 lz5 dz5, .bool x5, .bool y5]) D) ∧ Below W.heap.size W w') :
  Calls Tryz.prog 43 #[.agg #[.bool s1, .slice p1 k1 c1, .slice q1 l1 d1, .bool sz1, .slice pz1 kz1 cz1, .slice qz1 lz1 dz1, .bool x1, .bool y1], .func (.func g) #[] cap] w fun e w' => ∃ s5 p5 k5 c5 q5 l5 d5 sz5 pz5 kz5 cz5 qz5 lz5 dz5 x5 y5, e = .returned (.tuple #[.agg #[.bool s5, .slice p5 k5 c5, .slice q5 l5 d5, .bool sz5, .slice pz5 kz5 cz5, .slice qz5 lz5 dz5, .bool x5, .bool y5], .int .i64 c]) ∧ Hid (GRep w' (.agg #[.bool s5, .slice p5 k5 c5, .slice q5 l5 d5, .bool sz5, .slice pz5 kz5 cz5, .slice qz5 lz5 dz5, .bool x5, .bool y5]) D) ∧ Below w.heap.size w w' := by
 have hmf := makeFunc_run
 have HC := hid hcl
 clear hcl
 go_enter Tryz.func43, Tryz.ntmps43
 go_wp2_with fail
 have HV := hid (pre3 w [.bool s1, .slice p1 k1 c1, .slice q1 l1 d1, .bool sz1, .slice pz1 kz1 cz1, .slice qz1 lz1 dz1, .bool x1, .bool y1] [.func (.func g) #[] cap] [.bool false, .slice none 0 0, .slice none 0 0, .bool false, .slice none 0 0, .slice none 0 0, .bool false, .bool false] 26 53 26 nd8 nd1 nd8)
 generalize ((w.alloc (.cells #[.bool s1, .slice p1 k1 c1, .slice q1 l1 d1, .bool sz1, .slice pz1 kz1 cz1, .slice qz1 lz1 dz1, .bool x1, .bool y1] 26)).alloc (.cells #[.func (.func g) #[] cap] 53)).alloc (.cells #[.bool false, .slice none 0 0, .slice none 0 0, .bool false, .slice none 0 0, .slice none 0 0, .bool false, .bool false] 26) = W0 at *
 refine (HC.out _ HV.out.2.2.2 HV.out.1 HV.out.2.1).mono ?_
 rintro e w1 ⟨s5, p5, k5, c5, q5, l5, d5, sz5, pz5, kz5, cz5, qz5, lz5, dz5, x5, y5, rfl, hG, hB1⟩
 have HE := hid (And.intro (HV.out.2.2.1.below hB1) (HV.out.2.2.2.trans (hB1.mono HV.out.2.2.2.size)))
 clear hB1
 obtain ⟨g0, g1, g2, g3, g4, g5, g6, g7, f0, f1, f2, f3, f4, f5, f6, f7⟩ := HE.out.1.cells8
 go_wp2_with fail
 exact askI_ret rfl rfl (HE.out.1.stores [.bool s5, .slice p5 k5 c5, .slice q5 l5 d5, .bool sz5, .slice pz5 kz5 cz5, .slice qz5 lz5 dz5, .bool x5, .bool y5] rfl nd8) ⟨s5, p5, k5, c5, q5, l5, d5, sz5, pz5, kz5, cz5, qz5, lz5, dz5, x5, y5, rfl, hid (GRep.stores (k := 0) (l := [.bool s5, .slice p5 k5 c5, .slice q5 l5 d5, .bool sz5, .slice pz5 kz5 cz5, .slice qz5 lz5 dz5, .bool x5, .bool y5]) hG.out HE.out.1 nd8), Below.stores (k := 0) (l := [.bool s5, .slice p5 k5 c5, .slice q5 l5 d5, .bool sz5, .slice pz5 kz5 cz5, .slice qz5 lz5 dz5, .bool x5, .bool y5]) HE.out.2 (by omega)⟩
theorem askI_ok (s1 : Bool) (p1 : Option Addr) (k1 c1 : Nat) (q1 : Option Addr) (l1 d1 : Nat) (sz1 : Bool) (pz1 : Option Addr) (kz1 cz1 : Nat) (qz1 : Option Addr) (lz1 dz1 : Nat) (x1 : Bool) (y1 : Bool) (g : FuncId) (cap : Array Value) (a b : Bool × Nat × Nat) (D : (Bool × Nat × Nat) × (Bool × Nat × Nat) × Bool × Bool) (w : World) (ha : NRep w (.agg #[.bool s1, .slice p1 k1 c1, .slice q1 l1 d1]) a) (hb : NRep w (.agg #[.bool sz1, .slice pz1 kz1 cz1, .slice qz1 lz1 dz1]) b) (h1 : large a.2.1 a.2.2 = false) (h2 : large b.2.1 b.2.2 = false) (ht : TabOk w)
  (hfn : ∀ args W, (callFunc g args).run Tryz.prog W = .ok (.enter g args) W)
  (hop : ∀ W (i3 : Int) (s3 : Bool) (p3 : Option Addr) (k3 c3 : Nat) (q3 : Option Addr) (l3 d3 : Nat) (j3 : Int) (sz3 : Bool) (pz3 : Option Addr) (kz3 cz3 : Nat) (qz3 : Option Addr) (lz3 dz3 : Nat) (e3 : Bool), Below w.heap.size w W → SRep W (.agg #[.int .i64 i3, .bool s3, .slice p3 k3 c3, .slice q3 l3 d3, .int .i64 j3, .bool sz3, .slice pz3 kz3 cz3, .slice qz3 lz3 dz3, .bool e3]) (srd (a, b, x1, y1)) → Calls Tryz.prog g (#[.agg #[.int .i64 i3, .bool s3, .slice p3 k3 c3, .slice q3 l3 d3, .int .i64 j3, .bool sz3, .slice pz3 kz3 cz3, .slice qz3 lz3 dz3, .bool e3]] ++ cap) W fun e w' => ∃ s5 p5 k5 c5 q5 l5 d5 sz5 pz5 kz5 cz5 qz5 lz5 dz5 x5 y5, e = .returned (.agg #[.bool s5, .slice p5 k5 c5, .slice q5 l5 d5, .bool sz5, .slice pz5 kz5 cz5, .slice qz5 lz5 dz5, .bool x5, .bool y5]) ∧ Hid (GRep w' (.agg #[.bool s5, .slice p5 k5 c5, .slice q5 l5 d5, .bool sz5, .slice pz5 kz5 cz5, .slice qz5 lz5 dz5, .bool x5, .bool y5]) D) ∧ Below W.heap.size W w') :
  Calls Tryz.prog 43 #[.agg #[.bool s1, .slice p1 k1 c1, .slice q1 l1 d1, .bool sz1, .slice pz1 kz1 cz1, .slice qz1 lz1 dz1, .bool x1, .bool y1], .func (.func g) #[] cap] w fun e w' => ∃ s5 p5 k5 c5 q5 l5 d5 sz5 pz5 kz5 cz5 qz5 lz5 dz5 x5 y5, e = .returned (.tuple #[.agg #[.bool s5, .slice p5 k5 c5, .slice q5 l5 d5, .bool sz5, .slice pz5 kz5 cz5, .slice qz5 lz5 dz5, .bool x5, .bool y5], .int .i64 0]) ∧ Hid (GRep w' (.agg #[.bool s5, .slice p5 k5 c5, .slice q5 l5 d5, .bool sz5, .slice pz5 kz5 cz5, .slice qz5 lz5 dz5, .bool x5, .bool y5]) D) ∧ Below w.heap.size w w' :=
 askI_any s1 p1 k1 c1 q1 l1 d1 sz1 pz1 kz1 cz1 qz1 lz1 dz1 x1 y1 g cap D 0 w fun W hW hBa hBo =>
  finI_ok _ _ D W enter_ask1I fun W3 hW3 => ask1I_ok (w.heap.size + 1) w.heap.size s1 p1 k1 c1 q1 l1 d1 sz1 pz1 kz1 cz1 qz1 lz1 dz1 x1 y1 g cap a b D W3 (hBo.below hW3) (hBa.below hW3) ((ha.below hW).below hW3) ((hb.below hW).below hW3) h1 h2 ((ht.below hW).below hW3) hfn
   fun W4 i3 s3 p3 k3 c3 q3 l3 d3 j3 sz3 pz3 kz3 cz3 qz3 lz3 dz3 e3 hW4 hS => hop W4 i3 s3 p3 k3 c3 q3 l3 d3 j3 sz3 pz3 kz3 cz3 qz3 lz3 dz3 e3 ((hW.trans (hW3.mono hW.size)).trans (hW4.mono (hW.trans (hW3.mono hW.size)).size)) hS
theorem askI_large (s1 : Bool) (p1 : Option Addr) (k1 c1 : Nat) (q1 : Option Addr) (l1 d1 : Nat) (sz1 : Bool) (pz1 : Option Addr) (kz1 cz1 : Nat) (qz1 : Option Addr) (lz1 dz1 : Nat) (x1 : Bool) (y1 : Bool) (g : FuncId) (cap : Array Value) (a b : Bool × Nat × Nat) (w : World) (ha : NRep w (.agg #[.bool s1, .slice p1 k1 c1, .slice q1 l1 d1]) a) (hb : NRep w (.agg #[.bool sz1, .slice pz1 kz1 cz1, .slice qz1 lz1 dz1]) b) (h1 : (large a.2.1 a.2.2 || large b.2.1 b.2.2) = true) (ht : TabOk w) :
  Calls Tryz.prog 43 #[.agg #[.bool s1, .slice p1 k1 c1, .slice q1 l1 d1, .bool sz1, .slice pz1 kz1 cz1, .slice qz1 lz1 dz1, .bool x1, .bool y1], .func (.func g) #[] cap] w fun e w' => ∃ s5 p5 k5 c5 q5 l5 d5 sz5 pz5 kz5 cz5 qz5 lz5 dz5 x5 y5, e = .returned (.tuple #[.agg #[.bool s5, .slice p5 k5 c5, .slice q5 l5 d5, .bool sz5, .slice pz5 kz5 cz5, .slice qz5 lz5 dz5, .bool x5, .bool y5], .int .i64 1]) ∧ Hid (GRep w' (.agg #[.bool s5, .slice p5 k5 c5, .slice q5 l5 d5, .bool sz5, .slice pz5 kz5 cz5, .slice qz5 lz5 dz5, .bool x5, .bool y5]) gzero) ∧ Below w.heap.size w w' :=
 askI_any s1 p1 k1 c1 q1 l1 d1 sz1 pz1 kz1 cz1 qz1 lz1 dz1 x1 y1 g cap gzero 1 w fun W hW hBa hBo =>
  fin_zero (finI_err _ _ 1 W enter_ask1I fun W3 hW3 => ask1I_large (w.heap.size + 1) w.heap.size s1 p1 k1 c1 q1 l1 d1 sz1 pz1 kz1 cz1 qz1 lz1 dz1 x1 y1 g cap a b W3 (hBo.below hW3) (hBa.below hW3) ((ha.below hW).below hW3) ((hb.below hW).below hW3) h1 ((ht.below hW).below hW3))
theorem askI_err (s1 : Bool) (p1 : Option Addr) (k1 c1 : Nat) (q1 : Option Addr) (l1 d1 : Nat) (sz1 : Bool) (pz1 : Option Addr) (kz1 cz1 : Nat) (qz1 : Option Addr) (lz1 dz1 : Nat) (x1 : Bool) (y1 : Bool) (g : FuncId) (cap : Array Value) (a b : Bool × Nat × Nat) (c : Int) (w : World) (ha : NRep w (.agg #[.bool s1, .slice p1 k1 c1, .slice q1 l1 d1]) a) (hb : NRep w (.agg #[.bool sz1, .slice pz1 kz1 cz1, .slice qz1 lz1 dz1]) b) (h1 : large a.2.1 a.2.2 = false) (h2 : large b.2.1 b.2.2 = false) (ht : TabOk w)
  (hfn : ∀ args W, (callFunc g args).run Tryz.prog W = .ok (.enter g args) W)
  (hop : ∀ W (i3 : Int) (s3 : Bool) (p3 : Option Addr) (k3 c3 : Nat) (q3 : Option Addr) (l3 d3 : Nat) (j3 : Int) (sz3 : Bool) (pz3 : Option Addr) (kz3 cz3 : Nat) (qz3 : Option Addr) (lz3 dz3 : Nat) (e3 : Bool), Below w.heap.size w W → SRep W (.agg #[.int .i64 i3, .bool s3, .slice p3 k3 c3, .slice q3 l3 d3, .int .i64 j3, .bool sz3, .slice pz3 kz3 cz3, .slice qz3 lz3 dz3, .bool e3]) (srd (a, b, x1, y1)) → Calls Tryz.prog g (#[.agg #[.int .i64 i3, .bool s3, .slice p3 k3 c3, .slice q3 l3 d3, .int .i64 j3, .bool sz3, .slice pz3 kz3 cz3, .slice qz3 lz3 dz3, .bool e3]] ++ cap) W fun e w' => e = pan c ∧ Below W.heap.size W w') :
  Calls Tryz.prog 43 #[.agg #[.bool s1, .slice p1 k1 c1, .slice q1 l1 d1, .bool sz1, .slice pz1 kz1 cz1, .slice qz1 lz1 dz1, .bool x1, .bool y1], .func (.func g) #[] cap] w fun e w' => ∃ s5 p5 k5 c5 q5 l5 d5 sz5 pz5 kz5 cz5 qz5 lz5 dz5 x5 y5, e = .returned (.tuple #[.agg #[.bool s5, .slice p5 k5 c5, .slice q5 l5 d5, .bool sz5, .slice pz5 kz5 cz5, .slice qz5 lz5 dz5, .bool x5, .bool y5], .int .i64 c]) ∧ Hid (GRep w' (.agg #[.bool s5, .slice p5 k5 c5, .slice q5 l5 d5, .bool sz5, .slice pz5 kz5 cz5, .slice qz5 lz5 dz5, .bool x5, .bool y5]) gzero) ∧ Below w.heap.size w w' :=
 askI_any s1 p1 k1 c1 q1 l1 d1 sz1 pz1 kz1 cz1 qz1 lz1 dz1 x1 y1 g cap gzero c w fun W hW hBa hBo =>
  fin_zero (finI_err _ _ c W enter_ask1I fun W3 hW3 => ask1I_err (w.heap.size + 1) w.heap.size s1 p1 k1 c1 q1 l1 d1 sz1 pz1 kz1 cz1 qz1 lz1 dz1 x1 y1 g cap a b c W3 (hBo.below hW3) (hBa.below hW3) ((ha.below hW).below hW3) ((hb.below hW).below hW3) h1 h2 ((ht.below hW).below hW3) hfn
   fun W4 i3 s3 p3 k3 c3 q3 l3 d3 j3 sz3 pz3 kz3 cz3 qz3 lz3 dz3 e3 hW4 hS => hop W4 i3 s3 p3 k3 c3 q3 l3 d3 j3 sz3 pz3 kz3 cz3 qz3 lz3 dz3 e3 ((hW.trans (hW3.mono hW.size)).trans (hW4.mono (hW.trans (hW3.mono hW.size)).size)) hS)
theorem askBothI1_err (Ba Bb Bo : Nat) (s1 : Bool) (p1 : Option Addr) (k1 c1 : Nat) (q1 : Option Addr) (l1 d1 : Nat) (sz1 : Bool) (pz1 : Option Addr) (kz1 cz1 : Nat) (qz1 : Option Addr) (lz1 dz1 : Nat) (x1 : Bool) (y1 : Bool) (s2 : Bool) (p2 : Option Addr) (k2 c2 : Nat) (q2 : Option Addr) (l2 d2 : Nat) (sz2 : Bool) (pz2 : Option Addr) (kz2 cz2 : Nat) (qz2 : Option Addr) (lz2 dz2 : Nat) (x2 : Bool) (y2 : Bool) (g : FuncId) (cap : Array Value) (a b a' b' : Bool × Nat × Nat) (c : Int) (w : World)
  (hBa : Box w Ba #[.bool s1, .slice p1 k1 c1, .slice q1 l1 d1, .bool sz1, .slice pz1 kz1 cz1, .slice qz1 lz1 dz1, .bool x1, .bool y1]) (hBb : Box w Bb #[.bool s2, .slice p2 k2 c2, .slice q2 l2 d2, .bool sz2, .slice pz2 kz2 cz2, .slice qz2 lz2 dz2, .bool x2, .bool y2]) (hBo : Box w Bo #[.func (.func g) #[] cap])
  (ha : NRep w (.agg #[.bool s1, .slice p1 k1 c1, .slice q1 l1 d1]) a) (hb : NRep w (.agg #[.bool sz1, .slice pz1 kz1 cz1, .slice qz1 lz1 dz1]) b) (ha' : NRep w (.agg #[.bool s2, .slice p2 k2 c2, .slice q2 l2 d2]) a') (hb' : NRep w (.agg #[.bool sz2, .slice pz2 kz2 cz2, .slice qz2 lz2 dz2]) b')
  (h1 : large a.2.1 a.2.2 = false) (h2 : large b.2.1 b.2.2 = false) (h3 : large a'.2.1 a'.2.2 = false) (h4 : large b'.2.1 b'.2.2 = false) (ht : TabOk w)
  (hfn : ∀ args W, (callFunc g args).run Tryz.prog W = .ok (.enter g args) W)
  (hop : ∀ W (i3 : Int) (s3 : Bool) (p3 : Option Addr) (k3 c3 : Nat) (q3 : Option Addr) (l3 d3 : Nat) (j3 : Int) (sz3 : Bool) (pz3 : Option Addr) (kz3 cz3 : Nat) (qz3 : Option Addr) (lz3 dz3 : Nat) (e3 : Bool) (i4 : Int) (s4 : Bool) (p4 : Option Addr) (k4 c4 : Nat) (q4 : Option Addr) (l4 d4 : Nat) (j4 : Int) (sz4 : Bool) (pz4 : Option Addr) (kz4 cz4 : Nat) (qz4 : Option Addr) (lz4 dz4 : Nat) (e4 : Bool), Below w.heap.size w W → SRep W (.agg #[.int .i64 i3, .bool s3, .slice p3 k3 c3, .slice q3 l3 d3, .int .i64 j3, .bool sz3, .slice pz3 kz3 cz3, .slice qz3 lz3 dz3, .bool e3]) (srd (a, b, x1, y1)) → SRep W (.agg #[.int .i64 i4, .bool s4, .slice p4 k4 c4, .slice q4 l4 d4, .int .i64 j4, .bool sz4, .slice pz4 kz4 cz4, .slice qz4 lz4 dz4, .bool e4]) (srd (a', b', x2, y2)) → Calls Tryz.prog g (#[.agg #[.int .i64 i3, .bool s3, .slice p3 k3 c3, .slice q3 l3 d3, .int .i64 j3, .bool sz3, .slice pz3 kz3 cz3, .slice qz3 lz3 dz3, .bool e3], .agg #[.int .i64 i4, .bool s4, .slice p4 k4 c4, .slice q4 l4 d4, .int .i64 j4, .bool sz4, .slice pz4 kz4 cz4, .slice qz4 lz4 dz4, .bool e4]] ++ cap) W fun e w' => e = pan c ∧ Below W.heap.size W w') :
  Calls Tryz.prog 121 #[.pointer (some ⟨Ba, 0, none⟩), .pointer (some ⟨Bb, 0, none⟩), .pointer (some ⟨Bo, 0, none⟩)] w fun e w' => e = pan c ∧ Below w.heap.size w w' := by
 refine (askBothI1_gen false c Ba Bb Bo s1 p1 k1 c1 q1 l1 d1 sz1 pz1 kz1 cz1 qz1 lz1 dz1 x1 y1 s2 p2 k2 c2 q2 l2 d2 sz2 pz2 kz2 cz2 qz2 lz2 dz2 x2 y2 g cap a b a' b' gzero w hBa hBb hBo ha hb ha' hb' h1 h2 h3 h4 ht hfn fun W i3 s3 p3 k3 c3 q3 l3 d3 j3 sz3 pz3 kz3 cz3 qz3 lz3 dz3 e3 i4 s4 p4 k4 c4 q4 l4 d4 j4 sz4 pz4 kz4 cz4 qz4 lz4 dz4 e4 hW hS hT => (hop W i3 s3 p3 k3 c3 q3 l3 d3 j3 sz3 pz3 kz3 cz3 qz3 lz3 dz3 e3 i4 s4 p4 k4 c4 q4 l4 d4 j4 sz4 pz4 kz4 cz4 qz4 lz4 dz4 e4 hW hS hT).mono fun e w' h => .inr ⟨rfl, h⟩).mono ?_
 rintro e w' (⟨h, _⟩ | ⟨_, h⟩)
 ·exact absurd h (by decide)
 ·exact h
theorem both1_arg (i1 : Int) (s1 : Bool) (p1 : Option Addr) (k1 c1 : Nat) (q1 : Option Addr) (l1 d1 : Nat) (j1 : Int) (sz1 : Bool) (pz1 : Option Addr) (kz1 cz1 : Nat) (qz1 : Option Addr) (lz1 dz1 : Nat) (e1 : Bool) (i2 : Int) (s2 : Bool) (p2 : Option Addr) (k2 c2 : Nat) (q2 : Option Addr) (l2 d2 : Nat) (j2 : Int) (sz2 : Bool) (pz2 : Option Addr) (kz2 cz2 : Nat) (qz2 : Option Addr) (lz2 dz2 : Nat) (e2 : Bool) (Bv : Nat) (po : Value) (w : World) (hBv : Box w Bv #[.bool false]) :
  Calls Tryz.prog 111 #[.agg #[.int .i64 i1, .bool s1, .slice p1 k1 c1, .slice q1 l1 d1, .int .i64 j1, .bool sz1, .slice pz1 kz1 cz1, .slice qz1 lz1 dz1, .bool e1], .agg #[.int .i64 i2, .bool s2, .slice p2 k2 c2, .slice q2 l2 d2, .int .i64 j2, .bool sz2, .slice pz2 kz2 cz2, .slice qz2 lz2 dz2, .bool e2], .pointer (some ⟨Bv, 0, none⟩), po] w fun e w' => e = pan 2 ∧ Below w.heap.size w w' := by
 have HP := hid hBv
 have hlv := hBv.lt
 clear hBv
 go_enter Tryz.func111, Tryz.ntmps111
 go_upto_region 1 with fail
 generalize hA : World.alloc _ _ = W0
 have HV := hid (pre3_o hA nd9 nd9 nd8)
 clear hA
 obtain ⟨t0, _⟩ := (HP.out.below HV.out.2.2.2).cells1
 go_wp2_with fail
 refine (unless_no 2 W0).mono ?_
 rintro e w1 ⟨rfl, rfl⟩
 exact ⟨rfl, rfl, HV.out.2.2.2⟩
theorem one1_ret {W : World} {B : Nat} {a0 a1 a2 a3 a4 a5 a6 a7 : Value} {tm : Array Value} {R : Ending → World → Prop} (h2 : tm[4]?.getD undef = .pointer (some ⟨B, 0, none⟩)) (hV : Box W B #[a0, a1, a2, a3, a4, a5, a6, a7]) (hR : R (.returned (.agg #[a0, a1, a2, a3, a4, a5, a6, a7])) W) :
  bodyPost Tryz.prog Tryz.f145 R .ret { tmps := tm, defers := [] } W := by
 obtain ⟨g0, g1, g2, g3, g4, g5, g6, g7, _⟩ := hV.cells8
 exact bodyPost_ret (v := .agg #[a0, a1, a2, a3, a4, a5, a6, a7]) (by simp [results, Tryz.results145, go_sem, h2, g0, g1, g2, g3, g4, g5, g6, g7]) rfl hR
theorem one1_ok (i1 : Int) (s1 : Bool) (p1 : Option Addr) (k1 c1 : Nat) (q1 : Option Addr) (l1 d1 : Nat) (j1 : Int) (sz1 : Bool) (pz1 : Option Addr) (kz1 cz1 : Nat) (qz1 : Option Addr) (lz1 dz1 : Nat) (e1 : Bool) (Bv Bo : Nat) (g : FuncId) (cap : Array Value) (x r : (Int × Bool × Nat × Nat) × (Int × Bool × Nat × Nat) × Bool) (w : World)
  (hBv : Box w Bv #[.bool true]) (hBo : Box w Bo #[.func (.func g) #[] cap]) (h : SRep w (.agg #[.int .i64 i1, .bool s1, .slice p1 k1 c1, .slice q1 l1 d1, .int .i64 j1, .bool sz1, .slice pz1 kz1 cz1, .slice qz1 lz1 dz1, .bool e1]) x) (hx : x.2.2 = false)
  (hr : EOk 100000 r.1 ∧ EOk 100000 r.2.1) (hb : ebig r.1 = false ∧ ebig r.2.1 = false) (he : r.2.2 = false)
  (hfn : ∀ args W, (callFunc g args).run Tryz.prog W = .ok (.enter g args) W)
  (hop : ∀ W, Below w.heap.size w W → SRep W (.agg #[.int .i64 i1, .bool s1, .slice p1 k1 c1, .slice q1 l1 d1, .int .i64 j1, .bool sz1, .slice pz1 kz1 cz1, .slice qz1 lz1 dz1, .bool e1]) x → Calls Tryz.prog g (#[.agg #[.int .i64 i1, .bool s1, .slice p1 k1 c1, .slice q1 l1 d1, .int .i64 j1, .bool sz1, .slice pz1 kz1 cz1, .slice qz1 lz1 dz1, .bool e1]] ++ cap) W fun e w' => ∃ i3 s3 p3 k3 c3 q3 l3 d3 j3 sz3 pz3 kz3 cz3 qz3 lz3 dz3 e3, e = .returned (.agg #[.int .i64 i3, .bool s3, .slice p3 k3 c3, .slice q3 l3 d3, .int .i64 j3, .bool sz3, .slice pz3 kz3 cz3, .slice qz3 lz3 dz3, .bool e3]) ∧ Hid (SRep w' (.agg #[.int .i64 i3, .bool s3, .slice p3 k3 c3, .slice q3 l3 d3, .int .i64 j3, .bool sz3, .slice pz3 kz3 cz3, .slice qz3 lz3 dz3, .bool e3]) r) ∧ Below W.heap.size W w') :
  Calls Tryz.prog 145 #[.agg #[.int .i64 i1, .bool s1, .slice p1 k1 c1, .slice q1 l1 d1, .int .i64 j1, .bool sz1, .slice pz1 kz1 cz1, .slice qz1 lz1 dz1, .bool e1], .pointer (some ⟨Bv, 0, none⟩), .pointer (some ⟨Bo, 0, none⟩)] w fun e w' => ∃ s5 p5 k5 c5 q5 l5 d5 sz5 pz5 kz5 cz5 qz5 lz5 dz5 x5 y5, e = .returned (.agg #[.bool s5, .slice p5 k5 c5, .slice q5 l5 d5, .bool sz5, .slice pz5 kz5 cz5, .slice qz5 lz5 dz5, .bool x5, .bool y5]) ∧ Hid (GRep w' (.agg #[.bool s5, .slice p5 k5 c5, .slice q5 l5 d5, .bool sz5, .slice pz5 kz5 cz5, .slice qz5 lz5 dz5, .bool x5, .bool y5]) (giv r)) ∧ Below w.heap.size w w' := by
 have HO := hid (fun (W : World) (hW : Below w.heap.size w W) => hop W hW (h.below hW))
 have HI := hid (fun (W : World) (i3 : Int) (s3 : Bool) (p3 : Option Addr) (k3 c3 : Nat) (q3 : Option Addr) (l3 d3 : Nat) (j3 : Int) (sz3 : Bool) (pz3 : Option Addr) (kz3 cz3 : Nat) (qz3 : Option Addr) (lz3 dz3 : Nat) (e3 : Bool) (hS : SRep W (.agg #[.int .i64 i3, .bool s3, .slice p3 k3 c3, .slice q3 l3 d3, .int .i64 j3, .bool sz3, .slice pz3 kz3 cz3, .slice qz3 lz3 dz3, .bool e3]) r) => siv_ok i3 s3 p3 k3 c3 q3 l3 d3 j3 sz3 pz3 kz3 cz3 qz3 lz3 dz3 e3 r W hS hr hb he)
 have e1' := h.ends.2.2
 rw [hx] at e1'
 subst e1'
 obtain ⟨D, hD⟩ : ∃ D, D = giv r := ⟨_, rfl⟩
 rw [← hD] at HI ⊢
 have HP := hid (And.intro hBv hBo)
 have hlo := hBo.lt
 have hlv := hBv.lt
 clear h hx hr hb he hop hD hBv hBo
 go_enter Tryz.func145, Tryz.ntmps145
 go_upto_region 1 with fail
 generalize hA : World.alloc _ _ = W0
 have HV := hid (pre2_o hA nd9 nd8)
 clear hA
 obtain ⟨t0, _⟩ := (HP.out.1.below HV.out.2.2).cells1
 go_wp2_with fail
 refine (unless_ok 2 W0).mono ?_
 rintro e w1 ⟨rfl, rfl⟩
 clear t0
 obtain ⟨t0, _⟩ := (HP.out.2.below HV.out.2.2).cells1
 obtain ⟨m0, m1, m2, m3, m4, m5, m6, m7, m8, _⟩ := HV.out.1.cells9
 go_wp2_with fail
 refine (HO.out _ HV.out.2.2).mono ?_
 rintro e w2 ⟨i3, s3, p3, k3, c3, q3, l3, d3, j3, sz3, pz3, kz3, cz3, qz3, lz3, dz3, e3, rfl, hS, hB2⟩
 have HB2 := hid hB2
 clear hB2 t0 m0 m1 m2 m3 m4 m5 m6 m7 m8
 go_wp2_with fail
 refine (HI.out w2 i3 s3 p3 k3 c3 q3 l3 d3 j3 sz3 pz3 kz3 cz3 qz3 lz3 dz3 e3 hS.out).mono ?_
 rintro e w3 ⟨s5, p5, k5, c5, q5, l5, d5, sz5, pz5, kz5, cz5, qz5, lz5, dz5, x5, y5, rfl, hG, hB3⟩
 have HE := hid (And.intro (HV.out.2.1.below (held_any HB2.out hB3)) (HV.out.2.2.trans ((held_any HB2.out hB3).mono HV.out.2.2.size)))
 clear hB3
 obtain ⟨g0, g1, g2, g3, g4, g5, g6, g7, f0, f1, f2, f3, f4, f5, f6, f7⟩ := HE.out.1.cells8
 go_wp2_with fail
 exact one1_ret rfl (HE.out.1.stores [.bool s5, .slice p5 k5 c5, .slice q5 l5 d5, .bool sz5, .slice pz5 kz5 cz5, .slice qz5 lz5 dz5, .bool x5, .bool y5] rfl nd8) ⟨s5, p5, k5, c5, q5, l5, d5, sz5, pz5, kz5, cz5, qz5, lz5, dz5, x5, y5, rfl, hid (GRep.stores (k := 0) (l := [.bool s5, .slice p5 k5 c5, .slice q5 l5 d5, .bool sz5, .slice pz5 kz5 cz5, .slice qz5 lz5 dz5, .bool x5, .bool y5]) hG.out HE.out.1 nd8), Below.stores (k := 0) (l := [.bool s5, .slice p5 k5 c5, .slice q5 l5 d5, .bool sz5, .slice pz5 kz5 cz5, .slice qz5 lz5 dz5, .bool x5, .bool y5]) HE.out.2 (by omega)⟩
theorem one1_empty (i1 : Int) (s1 : Bool) (p1 : Option Addr) (k1 c1 : Nat) (q1 : Option Addr) (l1 d1 : Nat) (j1 : Int) (sz1 : Bool) (pz1 : Option Addr) (kz1 cz1 : Nat) (qz1 : Option Addr) (lz1 dz1 : Nat) (e1 : Bool) (Bv : Nat) (po : Value) (x : (Int × Bool × Nat × Nat) × (Int × Bool × Nat × Nat) × Bool) (w : World)
  (hBv : Box w Bv #[.bool true]) (h : SRep w (.agg #[.int .i64 i1, .bool s1, .slice p1 k1 c1, .slice q1 l1 d1, .int .i64 j1, .bool sz1, .slice pz1 kz1 cz1, .slice qz1 lz1 dz1, .bool e1]) x) (hx : x.2.2 = true) :
  Calls Tryz.prog 145 #[.agg #[.int .i64 i1, .bool s1, .slice p1 k1 c1, .slice q1 l1 d1, .int .i64 j1, .bool sz1, .slice pz1 kz1 cz1, .slice qz1 lz1 dz1, .bool e1], .pointer (some ⟨Bv, 0, none⟩), po] w fun e w' => ∃ s5 p5 k5 c5 q5 l5 d5 sz5 pz5 kz5 cz5 qz5 lz5 dz5 x5 y5, e = .returned (.agg #[.bool s5, .slice p5 k5 c5, .slice q5 l5 d5, .bool sz5, .slice pz5 kz5 cz5, .slice qz5 lz5 dz5, .bool x5, .bool y5]) ∧ Hid (GRep w' (.agg #[.bool s5, .slice p5 k5 c5, .slice q5 l5 d5, .bool sz5, .slice pz5 kz5 cz5, .slice qz5 lz5 dz5, .bool x5, .bool y5]) (giv x)) ∧ Below w.heap.size w w' := by
 have HI := hid (fun (W : World) (hW : Below w.heap.size w W) => siv_empty i1 s1 p1 k1 c1 q1 l1 d1 j1 sz1 pz1 kz1 cz1 qz1 lz1 dz1 e1 x W (h.below hW) hx)
 have e1' := h.ends.2.2
 rw [hx] at e1'
 subst e1'
 obtain ⟨D, hD⟩ : ∃ D, D = giv x := ⟨_, rfl⟩
 rw [← hD] at HI ⊢
 have HP := hid hBv
 have hlv := hBv.lt
 clear h hx hD hBv
 go_enter Tryz.func145, Tryz.ntmps145
 go_upto_region 1 with fail
 generalize hA : World.alloc _ _ = W0
 have HV := hid (pre2_o hA nd9 nd8)
 clear hA
 obtain ⟨t0, _⟩ := (HP.out.below HV.out.2.2).cells1
 go_wp2_with fail
 refine (unless_ok 2 W0).mono ?_
 rintro e w1 ⟨rfl, rfl⟩
 clear t0
 obtain ⟨m0, m1, m2, m3, m4, m5, m6, m7, m8, _⟩ := HV.out.1.cells9
 go_wp2_with fail
 refine (HI.out _ HV.out.2.2).mono ?_
 rintro e w3 ⟨s5, p5, k5, c5, q5, l5, d5, sz5, pz5, kz5, cz5, qz5, lz5, dz5, x5, y5, rfl, hG, hB3⟩
 have HE := hid (And.intro (HV.out.2.1.below hB3) (HV.out.2.2.trans (hB3.mono HV.out.2.2.size)))
 clear hB3 m0 m1 m2 m3 m4 m5 m6 m7 m8
 obtain ⟨g0, g1, g2, g3, g4, g5, g6, g7, f0, f1, f2, f3, f4, f5, f6, f7⟩ := HE.out.1.cells8
 go_wp2_with fail
 exact one1_ret rfl (HE.out.1.stores [.bool s5, .slice p5 k5 c5, .slice q5 l5 d5, .bool sz5, .slice pz5 kz5 cz5, .slice qz5 lz5 dz5, .bool x5, .bool y5] rfl nd8) ⟨s5, p5, k5, c5, q5, l5, d5, sz5, pz5, kz5, cz5, qz5, lz5, dz5, x5, y5, rfl, hid (GRep.stores (k := 0) (l := [.bool s5, .slice p5 k5 c5, .slice q5 l5 d5, .bool sz5, .slice pz5 kz5 cz5, .slice qz5 lz5 dz5, .bool x5, .bool y5]) hG.out HE.out.1 nd8), Below.stores (k := 0) (l := [.bool s5, .slice p5 k5 c5, .slice q5 l5 d5, .bool sz5, .slice pz5 kz5 cz5, .slice qz5 lz5 dz5, .bool x5, .bool y5]) HE.out.2 (by omega)⟩
theorem one1_arg (i1 : Int) (s1 : Bool) (p1 : Option Addr) (k1 c1 : Nat) (q1 : Option Addr) (l1 d1 : Nat) (j1 : Int) (sz1 : Bool) (pz1 : Option Addr) (kz1 cz1 : Nat) (qz1 : Option Addr) (lz1 dz1 : Nat) (e1 : Bool) (Bv : Nat) (po : Value) (w : World) (hBv : Box w Bv #[.bool false]) :
  Calls Tryz.prog 145 #[.agg #[.int .i64 i1, .bool s1, .slice p1 k1 c1, .slice q1 l1 d1, .int .i64 j1, .bool sz1, .slice pz1 kz1 cz1, .slice qz1 lz1 dz1, .bool e1], .pointer (some ⟨Bv, 0, none⟩), po] w fun e w' => e = pan 2 ∧ Below w.heap.size w w' := by
 have HP := hid hBv
 have hlv := hBv.lt
 clear hBv
 go_enter Tryz.func145, Tryz.ntmps145
 go_upto_region 1 with fail
 generalize hA : World.alloc _ _ = W0
 have HV := hid (pre2_o hA nd9 nd8)
 clear hA
 obtain ⟨t0, _⟩ := (HP.out.below HV.out.2.2).cells1
 go_wp2_with fail
 refine (unless_no 2 W0).mono ?_
 rintro e w1 ⟨rfl, rfl⟩
 exact ⟨rfl, rfl, HV.out.2.2⟩
theorem enter_one1 (args : Array Value) (w : World) : (callFunc 145 args).run Tryz.prog w = .ok (.enter 145 args) w := call_enter Tryz.func145 (by kernel_rfl) rfl args w
theorem one_ret {W : World} {B : Nat} {a0 a1 a2 a3 a4 a5 a6 a7 ev : Value} {tm : Array Value} {R : Ending → World → Prop} (h2 : tm[6]?.getD undef = .pointer (some ⟨B, 0, none⟩)) (h3 : tm[7]?.getD undef = ev) (hV : Box W B #[a0, a1, a2, a3, a4, a5, a6, a7]) (hR : R (.returned (.tuple #[.agg #[a0, a1, a2, a3, a4, a5, a6, a7], ev])) W) :
  bodyPost Tryz.prog Tryz.f88 R .ret { tmps := tm, defers := [] } W := by
 obtain ⟨g0, g1, g2, g3, g4, g5, g6, g7, _⟩ := hV.cells8
 exact bodyPost_ret (v := .tuple #[.agg #[a0, a1, a2, a3, a4, a5, a6, a7], ev]) (by simp [results, Tryz.results88, go_sem, h2, h3, g0, g1, g2, g3, g4, g5, g6, g7]) rfl hR
theorem one_any (s1 : Bool) (p1 : Option Addr) (k1 c1 : Nat) (q1 : Option Addr) (l1 d1 : Nat) (sz1 : Bool) (pz1 : Option Addr) (kz1 cz1 : Nat) (qz1 : Option Addr) (lz1 dz1 : Nat) (x1 : Bool) (y1 : Bool) (b : Bool) (g : FuncId) (cap : Array Value) (D : (Bool × Nat × Nat) × (Bool × Nat × Nat) × Bool × Bool) (c : Int) (w : World)
  (hask : ∀ W, Below w.heap.size w W → Box W (w.heap.size + 1) #[.bool b] → Box W (w.heap.size + 1 + 1) #[.func (.func g) #[] cap] →
   Calls Tryz.prog 43 #[.agg #[.bool s1, .slice p1 k1 c1, .slice q1 l1 d1, .bool sz1, .slice pz1 kz1 cz1, .slice qz1 lz1 dz1, .bool x1, .bool y1], .func (.func 145) #[] #[.pointer (some ⟨w.heap.size + 1, 0, none⟩), .pointer (some ⟨w.heap.size + 1 + 1, 0, none⟩)]] W fun e w' => ∃ s5 p5 k5 c5 q5 l5 d5 sz5 pz5 kz5 cz5 qz5 lz5 dz5 x5 y5, e = .returned (.tuple #[.agg #[.bool s5, .slice p5 k5 c5, .slice q5 l5 d5, .bool sz5, .slice pz5 kz5 cz5, .slice qz5 lz5 dz5, .bool x5, .bool y5], .int .i64 c]) ∧ Hid (GRep w' (.agg #[.bool s5, .slice p5 k5 c5, .slice q5 l5 d5, .bool sz5, .slice pz5 kz5 cz5, .slice qz5 lz5 dz5, .bool x5, .bool y5]) D) ∧ Below W.heap.size W w') :
  Calls Tryz.prog 88 #[.agg #[.bool s1, .slice p1 k1 c1, .slice q1 l1 d1, .bool sz1, .slice pz1 kz1 cz1, .slice qz1 lz1 dz1, .bool x1, .bool y1], .bool b, .func (.func g) #[] cap] w fun e w' => ∃ s5 p5 k5 c5 q5 l5 d5 sz5 pz5 kz5 cz5 qz5 lz5 dz5 x5 y5, e = .returned (.tuple #[.agg #[.bool s5, .slice p5 k5 c5, .slice q5 l5 d5, .bool sz5, .slice pz5 kz5 cz5, .slice qz5 lz5 dz5, .bool x5, .bool y5], .int .i64 c]) ∧ Hid (GRep w' (.agg #[.bool s5, .slice p5 k5 c5, .slice q5 l5 d5, .bool sz5, .slice pz5 kz5 cz5, .slice qz5 lz5 dz5, .bool x5, .bool y5]) D) ∧ Below w.heap.size w w' := by
 have hmf := makeFunc_run
 have HC := hid hask
 clear hask
 go_enter Tryz.func88, Tryz.ntmps88
 go_wp2_with fail
 have HV := hid (pre4 w [.bool s1, .slice p1 k1 c1, .slice q1 l1 d1, .bool sz1, .slice pz1 kz1 cz1, .slice qz1 lz1 dz1, .bool x1, .bool y1] [.bool b] [.func (.func g) #[] cap] [.bool false, .slice none 0 0, .slice none 0 0, .bool false, .slice none 0 0, .slice none 0 0, .bool false, .bool false] 26 4 82 26 nd8 nd1 nd1 nd8)
 generalize (((w.alloc (.cells #[.bool s1, .slice p1 k1 c1, .slice q1 l1 d1, .bool sz1, .slice pz1 kz1 cz1, .slice qz1 lz1 dz1, .bool x1, .bool y1] 26)).alloc (.cells #[.bool b] 4)).alloc (.cells #[.func (.func g) #[] cap] 82)).alloc (.cells #[.bool false, .slice none 0 0, .slice none 0 0, .bool false, .slice none 0 0, .slice none 0 0, .bool false, .bool false] 26) = W0 at *
 refine (HC.out _ HV.out.2.2.2.2 HV.out.2.1 HV.out.2.2.1).mono ?_
 rintro e w1 ⟨s5, p5, k5, c5, q5, l5, d5, sz5, pz5, kz5, cz5, qz5, lz5, dz5, x5, y5, rfl, hG, hB1⟩
 have HE := hid (And.intro (HV.out.2.2.2.1.below hB1) (HV.out.2.2.2.2.trans (hB1.mono HV.out.2.2.2.2.size)))
 clear hB1
 obtain ⟨g0, g1, g2, g3, g4, g5, g6, g7, f0, f1, f2, f3, f4, f5, f6, f7⟩ := HE.out.1.cells8
 go_wp2_with fail
 exact one_ret rfl rfl (HE.out.1.stores [.bool s5, .slice p5 k5 c5, .slice q5 l5 d5, .bool sz5, .slice pz5 kz5 cz5, .slice qz5 lz5 dz5, .bool x5, .bool y5] rfl nd8) ⟨s5, p5, k5, c5, q5, l5, d5, sz5, pz5, kz5, cz5, qz5, lz5, dz5, x5, y5, rfl, hid (GRep.stores (k := 0) (l := [.bool s5, .slice p5 k5 c5, .slice q5 l5 d5, .bool sz5, .slice pz5 kz5 cz5, .slice qz5 lz5 dz5, .bool x5, .bool y5]) hG.out HE.out.1 nd8), Below.stores (k := 0) (l := [.bool s5, .slice p5 k5 c5, .slice q5 l5 d5, .bool sz5, .slice pz5 kz5 cz5, .slice qz5 lz5 dz5, .bool x5, .bool y5]) HE.out.2 (by omega)⟩
theorem erat_big (i1 : Int) (s1 : Bool) (p1 : Option Addr) (k1 c1 : Nat) (q1 : Option Addr) (l1 d1 : Nat) (x : Int × Bool × Nat × Nat) (w : World) (h : ERep w (.agg #[.int .i64 i1, .bool s1, .slice p1 k1 c1, .slice q1 l1 d1]) x) (hx : EOk 100000 x) (hb : ebig x = true) :
  Calls Tryz.prog 98 #[.agg #[.int .i64 i1, .bool s1, .slice p1 k1 c1, .slice q1 l1 d1]] w fun e w' => e = pan 1 ∧ Below w.heap.size w w' := by
 obtain ⟨hi, hF⟩ := h.frac
 unfold ebig at hb
 rw [Bool.and_eq_true] at hb
 have hx0 : x.1 = 0 := of_decide_eq_true hb.1
 have hbg := hb.2
 rw [hx0] at hi
 subst hi
 have HA := hid (fun (W : World) (hW : Below w.heap.size w W) => FracRat_open (.agg #[.bool s1, .slice p1 k1 c1, .slice q1 l1 d1]) x.2 W (hF.below hW) (lt_1g5 hx.bn) (lt_1g5 hx.bd))
 rw [hbg] at HA
 change Hid (∀ (W : World), Below w.heap.size w W → Calls _ _ _ W fun e w' => Below W.heap.size W w' ∧ FRes w' e 1 (outF x.2)) at HA
 obtain ⟨r, hr⟩ : ∃ r, r = outF x.2 := ⟨_, rfl⟩
 rw [← hr] at HA
 clear hr h hx hF hx0 hb hbg
 go_enter Tryz.func98, Tryz.ntmps98
 go_wp2_with fail
 generalize hA : World.alloc _ _ = W0
 have HV := hid (pre2_o hA nd4 nd3)
 clear hA
 refine (infinite_any 0 s1 p1 k1 c1 q1 l1 d1 W0).mono ?_
 rintro e w1 ⟨rfl, hB1⟩
 rw [show ((0 : Int) != 0) = false from rfl]
 have HE := hid hB1
 obtain ⟨u0, u1, u2, u3, _⟩ := (HV.out.1.below hB1).cells4
 clear hB1
 go_wp2_with fail
 refine (HA.out w1 (HV.out.2.2.trans (HE.out.mono HV.out.2.2.size))).mono ?_
 rintro e w2 ⟨hB2, ⟨_, rfl⟩ | ⟨h0, _⟩⟩
 case inr => exact absurd h0 (by decide)
 have HE2 := hid (held_any HE.out hB2)
 clear hB2 u0 u1 u2 u3
 unfold zeroF
 go_wp2_with fail
 refine (mustR_err false none 0 0 none 0 0 1 (by decide) w2).mono ?_
 rintro e w3 ⟨rfl, hB3⟩
 exact ⟨rfl, rfl, HV.out.2.2.trans ((held_any HE2.out hB3).mono HV.out.2.2.size)⟩
theorem siv_big1 (i1 : Int) (s1 : Bool) (p1 : Option Addr) (k1 c1 : Nat) (q1 : Option Addr) (l1 d1 : Nat) (j1 : Int) (sz1 : Bool) (pz1 : Option Addr) (kz1 cz1 : Nat) (qz1 : Option Addr) (lz1 dz1 : Nat) (e1 : Bool) (x : (Int × Bool × Nat × Nat) × (Int × Bool × Nat × Nat) × Bool) (w : World) (h : SRep w (.agg #[.int .i64 i1, .bool s1, .slice p1 k1 c1, .slice q1 l1 d1, .int .i64 j1, .bool sz1, .slice pz1 kz1 cz1, .slice qz1 lz1 dz1, .bool e1]) x) (hx : EOk 100000 x.1 ∧ EOk 100000 x.2.1) (hb : ebig x.1 = true) (he : x.2.2 = false) :
  Calls Tryz.prog 44 #[.agg #[.int .i64 i1, .bool s1, .slice p1 k1 c1, .slice q1 l1 d1, .int .i64 j1, .bool sz1, .slice pz1 kz1 cz1, .slice qz1 lz1 dz1, .bool e1]] w fun e w' => e = pan 1 ∧ Below w.heap.size w w' := by
 have h1 := h.ends
 have HL := hid (fun (W : World) (hW : Below w.heap.size w W) => erat_big i1 s1 p1 k1 c1 q1 l1 d1 x.1 W (h1.1.below hW) hx.1 hb)
 have hee := h1.2.2
 rw [he] at hee
 subst hee
 clear h hx hb he h1
 go_enter Tryz.func44, Tryz.ntmps44
 go_wp2_with fail
 generalize hA : World.alloc _ _ = W0
 have HV := hid (pre2_o hA nd9 nd8)
 clear hA
 have HQ := hid (QQ.i1 (cs := [.int .i64 i1, .bool s1, .slice p1 k1 c1, .slice q1 l1 d1, .int .i64 j1, .bool sz1, .slice pz1 kz1 cz1, .slice qz1 lz1 dz1, .bool false]) HV.out.1 HV.out.2.2)
 have HS := hid (fun (w' : World) (hb : QQ w [(w.heap.size, [.int .i64 i1, .bool s1, .slice p1 k1 c1, .slice q1 l1 d1, .int .i64 j1, .bool sz1, .slice pz1 kz1 cz1, .slice qz1 lz1 dz1, .bool false])] w') => hb.s_9)
 refine wp_region_held_drew (S := (fun w' => w'.cell? ⟨w.heap.size, 0, none⟩ = some (.int .i64 i1) ∧ w'.cell? ⟨w.heap.size, 1, none⟩ = some (.bool s1) ∧ w'.cell? ⟨w.heap.size, 2, none⟩ = some (.slice p1 k1 c1) ∧ w'.cell? ⟨w.heap.size, 3, none⟩ = some (.slice q1 l1 d1) ∧ w'.cell? ⟨w.heap.size, 4, none⟩ = some (.int .i64 j1) ∧ w'.cell? ⟨w.heap.size, 5, none⟩ = some (.bool sz1) ∧ w'.cell? ⟨w.heap.size, 6, none⟩ = some (.slice pz1 kz1 cz1) ∧ w'.cell? ⟨w.heap.size, 7, none⟩ = some (.slice qz1 lz1 dz1) ∧ w'.cell? ⟨w.heap.size, 8, none⟩ = some (.bool false) ∧ Hid (QQ w [(w.heap.size, [.int .i64 i1, .bool s1, .slice p1 k1 c1, .slice q1 l1 d1, .int .i64 j1, .bool sz1, .slice pz1 kz1 cz1, .slice qz1 lz1 dz1, .bool false])] w'))) (by kernel_rfl) (HS.out _ HQ.out.drew) (fun hHeld => ?_)
 refine wpAnyH_take (i := 0) (v := ?vv0) rfl (by kernel_rfl) (by kernel_rfl) (by kernel_rfl) (fun _ _ _ h => h) (Or.inl ⟨by rfl, ?hy0⟩) (by assumption) ?_
 case hy0 => (intro w' hSw; (try dsimp only at hSw); go_simp; first | done | with_reducible rfl)
 simp only [Act.put]
 refine wpAnyH_take (i := 1) (v := ?vv1) rfl (by kernel_rfl) (by kernel_rfl) (by kernel_rfl) (fun _ _ _ h => h) (Or.inl ⟨by rfl, ?hy1⟩) (by assumption) ?_
 case hy1 => (intro w' hSw; (try dsimp only at hSw); go_simp; first | done | with_reducible rfl)
 simp only [Act.put]
 refine wpAnyH_take (i := 3) (v := ?vv3) rfl (by kernel_rfl) (by kernel_rfl) (by kernel_rfl) (fun _ _ _ h => h) (Or.inl ⟨by rfl, ?hy3⟩) (by assumption) ?_
 case hy3 => (intro w' hSw; (try dsimp only at hSw); go_simp; first | done | with_reducible rfl)
 simp only [Act.put]
 refine wpAnyH_take (i := 4) (v := ?vv4) rfl (by kernel_rfl) (by kernel_rfl) (by kernel_rfl) (fun _ _ _ h => h) (Or.inl ⟨by rfl, ?hy4⟩) (by assumption) ?_
 case hy4 => (intro w' hSw; (try dsimp only at hSw); go_simp; first | done | with_reducible rfl)
 simp only [Act.put]
 refine wpAnyH_take (i := 6) (v := ?vv6) rfl (by kernel_rfl) (by kernel_rfl) (by kernel_rfl) (fun _ _ _ h => h) (Or.inl ⟨by rfl, ?hy6⟩) (by assumption) ?_
 case hy6 => (intro w' hSw; (try dsimp only at hSw); go_simp; first | done | with_reducible rfl)
 simp only [Act.put]
 refine wpAnyH_take (i := 7) (v := ?vv7) rfl (by kernel_rfl) (by kernel_rfl) (by kernel_rfl) (fun _ _ _ h => h) (Or.inl ⟨by rfl, ?hy7⟩) (by assumption) ?_
 case hy7 => (intro w' hSw; (try dsimp only at hSw); go_simp; first | done | with_reducible rfl)
 simp only [Act.put]
 refine wpAnyH_take (i := 9) (v := ?vv9) rfl (by kernel_rfl) (by kernel_rfl) (by kernel_rfl) (fun _ _ _ h => h) (Or.inl ⟨by rfl, ?hy9⟩) (by assumption) ?_
 case hy9 => (intro w' hSw; (try dsimp only at hSw); go_simp; first | done | with_reducible rfl)
 simp only [Act.put]
 refine wpAnyH_take (i := 10) (v := ?vv10) rfl (by kernel_rfl) (by kernel_rfl) (by kernel_rfl) (fun _ _ _ h => h) (Or.inl ⟨by rfl, ?hy10⟩) (by assumption) ?_
 case hy10 => (intro w' hSw; (try dsimp only at hSw); go_simp; first | done | with_reducible rfl)
 simp only [Act.put]
 refine wpAnyH_ready (rs := [2]) (by kernel_rfl) (by simp) ?_
 refine .cons rfl (fun K hK => ?_) .nil
 go_simp
 go_at_call 98
 refine (HL.out _ HQ.out.drew.bel).mono ?_
 rintro e wa ⟨rfl, hB1⟩
 exact ⟨rfl, rfl, (HQ.out.drew.call hB1).bel⟩
theorem siv_big2 (i1 : Int) (s1 : Bool) (p1 : Option Addr) (k1 c1 : Nat) (q1 : Option Addr) (l1 d1 : Nat) (j1 : Int) (sz1 : Bool) (pz1 : Option Addr) (kz1 cz1 : Nat) (qz1 : Option Addr) (lz1 dz1 : Nat) (e1 : Bool) (x : (Int × Bool × Nat × Nat) × (Int × Bool × Nat × Nat) × Bool) (w : World) (h : SRep w (.agg #[.int .i64 i1, .bool s1, .slice p1 k1 c1, .slice q1 l1 d1, .int .i64 j1, .bool sz1, .slice pz1 kz1 cz1, .slice qz1 lz1 dz1, .bool e1]) x) (hx : EOk 100000 x.1 ∧ EOk 100000 x.2.1) (hb : ebig x.1 = false) (hc : ebig x.2.1 = true) (he : x.2.2 = false) :
  Calls Tryz.prog 44 #[.agg #[.int .i64 i1, .bool s1, .slice p1 k1 c1, .slice q1 l1 d1, .int .i64 j1, .bool sz1, .slice pz1 kz1 cz1, .slice qz1 lz1 dz1, .bool e1]] w fun e w' => e = pan 1 ∧ Below w.heap.size w w' := by
 have h1 := h.ends
 have HL := hid (fun (W : World) (hW : Below w.heap.size w W) => erat_ok i1 s1 p1 k1 c1 q1 l1 d1 x.1 W (h1.1.below hW) hx.1 hb)
 have HH := hid (fun (W : World) (hW : Below w.heap.size w W) => erat_big j1 sz1 pz1 kz1 cz1 qz1 lz1 dz1 x.2.1 W (h1.2.1.below hW) hx.2 hc)
 have hee := h1.2.2
 rw [he] at hee
 subst hee
 clear h hx hb hc he h1
 go_enter Tryz.func44, Tryz.ntmps44
 go_wp2_with fail
 generalize hA : World.alloc _ _ = W0
 have HV := hid (pre2_o hA nd9 nd8)
 clear hA
 have HQ := hid (QQ.i1 (cs := [.int .i64 i1, .bool s1, .slice p1 k1 c1, .slice q1 l1 d1, .int .i64 j1, .bool sz1, .slice pz1 kz1 cz1, .slice qz1 lz1 dz1, .bool false]) HV.out.1 HV.out.2.2)
 have HS := hid (fun (w' : World) (hb : QQ w [(w.heap.size, [.int .i64 i1, .bool s1, .slice p1 k1 c1, .slice q1 l1 d1, .int .i64 j1, .bool sz1, .slice pz1 kz1 cz1, .slice qz1 lz1 dz1, .bool false])] w') => hb.s_9)
 refine wp_region_held_drew (S := (fun w' => w'.cell? ⟨w.heap.size, 0, none⟩ = some (.int .i64 i1) ∧ w'.cell? ⟨w.heap.size, 1, none⟩ = some (.bool s1) ∧ w'.cell? ⟨w.heap.size, 2, none⟩ = some (.slice p1 k1 c1) ∧ w'.cell? ⟨w.heap.size, 3, none⟩ = some (.slice q1 l1 d1) ∧ w'.cell? ⟨w.heap.size, 4, none⟩ = some (.int .i64 j1) ∧ w'.cell? ⟨w.heap.size, 5, none⟩ = some (.bool sz1) ∧ w'.cell? ⟨w.heap.size, 6, none⟩ = some (.slice pz1 kz1 cz1) ∧ w'.cell? ⟨w.heap.size, 7, none⟩ = some (.slice qz1 lz1 dz1) ∧ w'.cell? ⟨w.heap.size, 8, none⟩ = some (.bool false) ∧ Hid (QQ w [(w.heap.size, [.int .i64 i1, .bool s1, .slice p1 k1 c1, .slice q1 l1 d1, .int .i64 j1, .bool sz1, .slice pz1 kz1 cz1, .slice qz1 lz1 dz1, .bool false])] w'))) (by kernel_rfl) (HS.out _ HQ.out.drew) (fun hHeld => ?_)
 refine wpAnyH_take (i := 0) (v := ?vv0) rfl (by kernel_rfl) (by kernel_rfl) (by kernel_rfl) (fun _ _ _ h => h) (Or.inl ⟨by rfl, ?hy0⟩) (by assumption) ?_
 case hy0 => (intro w' hSw; (try dsimp only at hSw); go_simp; first | done | with_reducible rfl)
 simp only [Act.put]
 refine wpAnyH_take (i := 1) (v := ?vv1) rfl (by kernel_rfl) (by kernel_rfl) (by kernel_rfl) (fun _ _ _ h => h) (Or.inl ⟨by rfl, ?hy1⟩) (by assumption) ?_
 case hy1 => (intro w' hSw; (try dsimp only at hSw); go_simp; first | done | with_reducible rfl)
 simp only [Act.put]
 refine wpAnyH_take (i := 3) (v := ?vv3) rfl (by kernel_rfl) (by kernel_rfl) (by kernel_rfl) (fun _ _ _ h => h) (Or.inl ⟨by rfl, ?hy3⟩) (by assumption) ?_
 case hy3 => (intro w' hSw; (try dsimp only at hSw); go_simp; first | done | with_reducible rfl)
 simp only [Act.put]
 refine wpAnyH_take (i := 4) (v := ?vv4) rfl (by kernel_rfl) (by kernel_rfl) (by kernel_rfl) (fun _ _ _ h => h) (Or.inl ⟨by rfl, ?hy4⟩) (by assumption) ?_
 case hy4 => (intro w' hSw; (try dsimp only at hSw); go_simp; first | done | with_reducible rfl)
 simp only [Act.put]
 refine wpAnyH_take (i := 6) (v := ?vv6) rfl (by kernel_rfl) (by kernel_rfl) (by kernel_rfl) (fun _ _ _ h => h) (Or.inl ⟨by rfl, ?hy6⟩) (by assumption) ?_
 case hy6 => (intro w' hSw; (try dsimp only at hSw); go_simp; first | done | with_reducible rfl)
 simp only [Act.put]
 refine wpAnyH_take (i := 7) (v := ?vv7) rfl (by kernel_rfl) (by kernel_rfl) (by kernel_rfl) (fun _ _ _ h => h) (Or.inl ⟨by rfl, ?hy7⟩) (by assumption) ?_
 case hy7 => (intro w' hSw; (try dsimp only at hSw); go_simp; first | done | with_reducible rfl)
 simp only [Act.put]
 refine wpAnyH_take (i := 9) (v := ?vv9) rfl (by kernel_rfl) (by kernel_rfl) (by kernel_rfl) (fun _ _ _ h => h) (Or.inl ⟨by rfl, ?hy9⟩) (by assumption) ?_
 case hy9 => (intro w' hSw; (try dsimp only at hSw); go_simp; first | done | with_reducible rfl)
 simp only [Act.put]
 refine wpAnyH_take (i := 10) (v := ?vv10) rfl (by kernel_rfl) (by kernel_rfl) (by kernel_rfl) (fun _ _ _ h => h) (Or.inl ⟨by rfl, ?hy10⟩) (by assumption) ?_
 case hy10 => (intro w' hSw; (try dsimp only at hSw); go_simp; first | done | with_reducible rfl)
 simp only [Act.put]
 refine wpAnyH_ready (rs := [2]) (by kernel_rfl) (by simp) ?_
 refine .cons rfl (fun K hK => ?_) .nil
 go_simp
 go_at_call 98
 refine (HL.out _ HQ.out.drew.bel).mono ?_
 rintro e wa ⟨s4, p4, k4, c4, q4, l4, d4, rfl, hE1, hB1⟩
 have hQ1 := HQ.out.drew.call hB1
 go_wp2_with fail
 refine hK.out _ _ ?_ (fun hHeld => ?_)
 ·exact HS.out _ (hQ1)
 clear hK K
 try simp only [Act.put, setIfInBounds_toArray, set_cons_zero, set_cons_succ]
 refine wpAnyH_ready (rs := [5]) (by kernel_rfl) (by simp) ?_
 refine .cons rfl (fun K hK => ?_) .nil
 go_simp
 go_at_call 98
 refine (HH.out _ hQ1.bel).mono ?_
 rintro e wb ⟨rfl, hB2⟩
 exact ⟨rfl, rfl, (hQ1.call hB2).bel⟩
theorem siv_big (i1 : Int) (s1 : Bool) (p1 : Option Addr) (k1 c1 : Nat) (q1 : Option Addr) (l1 d1 : Nat) (j1 : Int) (sz1 : Bool) (pz1 : Option Addr) (kz1 cz1 : Nat) (qz1 : Option Addr) (lz1 dz1 : Nat) (e1 : Bool) (x : (Int × Bool × Nat × Nat) × (Int × Bool × Nat × Nat) × Bool) (w : World) (h : SRep w (.agg #[.int .i64 i1, .bool s1, .slice p1 k1 c1, .slice q1 l1 d1, .int .i64 j1, .bool sz1, .slice pz1 kz1 cz1, .slice qz1 lz1 dz1, .bool e1]) x) (hx : EOk 100000 x.1 ∧ EOk 100000 x.2.1) (hb : sbig x = true) (he : x.2.2 = false) :
  Calls Tryz.prog 44 #[.agg #[.int .i64 i1, .bool s1, .slice p1 k1 c1, .slice q1 l1 d1, .int .i64 j1, .bool sz1, .slice pz1 kz1 cz1, .slice qz1 lz1 dz1, .bool e1]] w fun e w' => e = pan 1 ∧ Below w.heap.size w w' := by
 unfold sbig at hb
 cases h1 : ebig x.1
 ·rw [h1] at hb
  exact siv_big2 i1 s1 p1 k1 c1 q1 l1 d1 j1 sz1 pz1 kz1 cz1 qz1 lz1 dz1 e1 x w h hx h1 hb he
 ·exact siv_big1 i1 s1 p1 k1 c1 q1 l1 d1 j1 sz1 pz1 kz1 cz1 qz1 lz1 dz1 e1 x w h hx h1 he
theorem one1_big (i1 : Int) (s1 : Bool) (p1 : Option Addr) (k1 c1 : Nat) (q1 : Option Addr) (l1 d1 : Nat) (j1 : Int) (sz1 : Bool) (pz1 : Option Addr) (kz1 cz1 : Nat) (qz1 : Option Addr) (lz1 dz1 : Nat) (e1 : Bool) (Bv Bo : Nat) (g : FuncId) (cap : Array Value) (x r : (Int × Bool × Nat × Nat) × (Int × Bool × Nat × Nat) × Bool) (w : World)
  (hBv : Box w Bv #[.bool true]) (hBo : Box w Bo #[.func (.func g) #[] cap]) (h : SRep w (.agg #[.int .i64 i1, .bool s1, .slice p1 k1 c1, .slice q1 l1 d1, .int .i64 j1, .bool sz1, .slice pz1 kz1 cz1, .slice qz1 lz1 dz1, .bool e1]) x) (hx : x.2.2 = false) (hr : EOk 100000 r.1 ∧ EOk 100000 r.2.1) (hb : sbig r = true) (hrr : r.2.2 = false)
  (hfn : ∀ args W, (callFunc g args).run Tryz.prog W = .ok (.enter g args) W)
  (hop : ∀ W, Below w.heap.size w W → SRep W (.agg #[.int .i64 i1, .bool s1, .slice p1 k1 c1, .slice q1 l1 d1, .int .i64 j1, .bool sz1, .slice pz1 kz1 cz1, .slice qz1 lz1 dz1, .bool e1]) x → Calls Tryz.prog g (#[.agg #[.int .i64 i1, .bool s1, .slice p1 k1 c1, .slice q1 l1 d1, .int .i64 j1, .bool sz1, .slice pz1 kz1 cz1, .slice qz1 lz1 dz1, .bool e1]] ++ cap) W fun e w' => ∃ i3 s3 p3 k3 c3 q3 l3 d3 j3 sz3 pz3 kz3 cz3 qz3 lz3 dz3 e3, e = .returned (.agg #[.int .i64 i3, .bool s3, .slice p3 k3 c3, .slice q3 l3 d3, .int .i64 j3, .bool sz3, .slice pz3 kz3 cz3, .slice qz3 lz3 dz3, .bool e3]) ∧ Hid (SRep w' (.agg #[.int .i64 i3, .bool s3, .slice p3 k3 c3, .slice q3 l3 d3, .int .i64 j3, .bool sz3, .slice pz3 kz3 cz3, .slice qz3 lz3 dz3, .bool e3]) r) ∧ Below W.heap.size W w') :
  Calls Tryz.prog 145 #[.agg #[.int .i64 i1, .bool s1, .slice p1 k1 c1, .slice q1 l1 d1, .int .i64 j1, .bool sz1, .slice pz1 kz1 cz1, .slice qz1 lz1 dz1, .bool e1], .pointer (some ⟨Bv, 0, none⟩), .pointer (some ⟨Bo, 0, none⟩)] w fun e w' => e = pan 1 ∧ Below w.heap.size w w' := by
 have HO := hid (fun (W : World) (hW : Below w.heap.size w W) => hop W hW (h.below hW))
 have HI := hid (fun (W : World) (i3 : Int) (s3 : Bool) (p3 : Option Addr) (k3 c3 : Nat) (q3 : Option Addr) (l3 d3 : Nat) (j3 : Int) (sz3 : Bool) (pz3 : Option Addr) (kz3 cz3 : Nat) (qz3 : Option Addr) (lz3 dz3 : Nat) (e3 : Bool) (hS : SRep W (.agg #[.int .i64 i3, .bool s3, .slice p3 k3 c3, .slice q3 l3 d3, .int .i64 j3, .bool sz3, .slice pz3 kz3 cz3, .slice qz3 lz3 dz3, .bool e3]) r) => siv_big i3 s3 p3 k3 c3 q3 l3 d3 j3 sz3 pz3 kz3 cz3 qz3 lz3 dz3 e3 r W hS hr hb hrr)
 have e1' := h.ends.2.2
 rw [hx] at e1'
 subst e1'
 have HP := hid (And.intro hBv hBo)
 have hlo := hBo.lt
 have hlv := hBv.lt
 clear h hx hr hb hrr hop hBv hBo
 go_enter Tryz.func145, Tryz.ntmps145
 go_upto_region 1 with fail
 generalize hA : World.alloc _ _ = W0
 have HV := hid (pre2_o hA nd9 nd8)
 clear hA
 obtain ⟨t0, _⟩ := (HP.out.1.below HV.out.2.2).cells1
 go_wp2_with fail
 refine (unless_ok 2 W0).mono ?_
 rintro e w1 ⟨rfl, rfl⟩
 clear t0
 obtain ⟨t0, _⟩ := (HP.out.2.below HV.out.2.2).cells1
 obtain ⟨m0, m1, m2, m3, m4, m5, m6, m7, m8, _⟩ := HV.out.1.cells9
 go_wp2_with fail
 refine (HO.out _ HV.out.2.2).mono ?_
 rintro e w2 ⟨i3, s3, p3, k3, c3, q3, l3, d3, j3, sz3, pz3, kz3, cz3, qz3, lz3, dz3, e3, rfl, hS, hB2⟩
 have HB2 := hid hB2
 clear hB2 t0 m0 m1 m2 m3 m4 m5 m6 m7 m8
 go_wp2_with fail
 refine (HI.out w2 i3 s3 p3 k3 c3 q3 l3 d3 j3 sz3 pz3 kz3 cz3 qz3 lz3 dz3 e3 hS.out).mono ?_
 rintro e w3 ⟨rfl, hB3⟩
 exact ⟨rfl, rfl, HV.out.2.2.trans ((held_any HB2.out hB3).mono HV.out.2.2.size)⟩
def ocode (v : Bool) (f : (Int × Bool × Nat × Nat) × (Int × Bool × Nat × Nat) × Bool → (Int × Bool × Nat × Nat) × (Int × Bool × Nat × Nat) × Bool) (a : (Bool × Nat × Nat) × (Bool × Nat × Nat) × Bool × Bool) : Int := if ilarge a then 1 else if v then (if (srd a).2.2 then 0 else if sbig (f (srd a)) then 1 else 0) else 2
def oval (v : Bool) (f : (Int × Bool × Nat × Nat) × (Int × Bool × Nat × Nat) × Bool → (Int × Bool × Nat × Nat) × (Int × Bool × Nat × Nat) × Bool) (a : (Bool × Nat × Nat) × (Bool × Nat × Nat) × Bool × Bool) : (Bool × Nat × Nat) × (Bool × Nat × Nat) × Bool × Bool := if ilarge a then gzero else if v then (if (srd a).2.2 then giv (srd a) else if sbig (f (srd a)) then gzero else giv (f (srd a))) else gzero
theorem one_gen (s1 : Bool) (p1 : Option Addr) (k1 c1 : Nat) (q1 : Option Addr) (l1 d1 : Nat) (sz1 : Bool) (pz1 : Option Addr) (kz1 cz1 : Nat) (qz1 : Option Addr) (lz1 dz1 : Nat) (x1 : Bool) (y1 : Bool) (v : Bool) (g : FuncId) (cap : Array Value) (f : (Int × Bool × Nat × Nat) × (Int × Bool × Nat × Nat) × Bool → (Int × Bool × Nat × Nat) × (Int × Bool × Nat × Nat) × Bool) (a b : Bool × Nat × Nat) (w : World) (ha : NRep w (.agg #[.bool s1, .slice p1 k1 c1, .slice q1 l1 d1]) a) (hb : NRep w (.agg #[.bool sz1, .slice pz1 kz1 cz1, .slice qz1 lz1 dz1]) b) (ht : TabOk w)
  (hfn : ∀ args W, (callFunc g args).run Tryz.prog W = .ok (.enter g args) W)
  (hr : v = true → large a.2.1 a.2.2 = false → large b.2.1 b.2.2 = false → (srd (a, b, x1, y1)).2.2 = false → (EOk 100000 (f (srd (a, b, x1, y1))).1 ∧ EOk 100000 (f (srd (a, b, x1, y1))).2.1) ∧ (f (srd (a, b, x1, y1))).2.2 = false)
  (hop : v = true → large a.2.1 a.2.2 = false → large b.2.1 b.2.2 = false → (srd (a, b, x1, y1)).2.2 = false → ∀ W (i1 : Int) (s1 : Bool) (p1 : Option Addr) (k1 c1 : Nat) (q1 : Option Addr) (l1 d1 : Nat) (j1 : Int) (sz1 : Bool) (pz1 : Option Addr) (kz1 cz1 : Nat) (qz1 : Option Addr) (lz1 dz1 : Nat) (e1 : Bool), Below w.heap.size w W → SRep W (.agg #[.int .i64 i1, .bool s1, .slice p1 k1 c1, .slice q1 l1 d1, .int .i64 j1, .bool sz1, .slice pz1 kz1 cz1, .slice qz1 lz1 dz1, .bool e1]) (srd (a, b, x1, y1)) → Calls Tryz.prog g (#[.agg #[.int .i64 i1, .bool s1, .slice p1 k1 c1, .slice q1 l1 d1, .int .i64 j1, .bool sz1, .slice pz1 kz1 cz1, .slice qz1 lz1 dz1, .bool e1]] ++ cap) W fun e w' => ∃ i3 s3 p3 k3 c3 q3 l3 d3 j3 sz3 pz3 kz3 cz3 qz3 lz3 dz3 e3, e = .returned (.agg #[.int .i64 i3, .bool s3, .slice p3 k3 c3, .slice q3 l3 d3, .int .i64 j3, .bool sz3, .slice pz3 kz3 cz3, .slice qz3 lz3 dz3, .bool e3]) ∧ Hid (SRep w' (.agg #[.int .i64 i3, .bool s3, .slice p3 k3 c3, .slice q3 l3 d3, .int .i64 j3, .bool sz3, .slice pz3 kz3 cz3, .slice qz3 lz3 dz3, .bool e3]) (f (srd (a, b, x1, y1)))) ∧ Below W.heap.size W w') :
  Calls Tryz.prog 88 #[.agg #[.bool s1, .slice p1 k1 c1, .slice q1 l1 d1, .bool sz1, .slice pz1 kz1 cz1, .slice qz1 lz1 dz1, .bool x1, .bool y1], .bool v, .func (.func g) #[] cap] w fun e w' => ∃ s5 p5 k5 c5 q5 l5 d5 sz5 pz5 kz5 cz5 qz5 lz5 dz5 x5 y5, e = .returned (.tuple #[.agg #[.bool s5, .slice p5 k5 c5, .slice q5 l5 d5, .bool sz5, .slice pz5 kz5 cz5, .slice qz5 lz5 dz5, .bool x5, .bool y5], .int .i64 (ocode v f (a, b, x1, y1))]) ∧ Hid (GRep w' (.agg #[.bool s5, .slice p5 k5 c5, .slice q5 l5 d5, .bool sz5, .slice pz5 kz5 cz5, .slice qz5 lz5 dz5, .bool x5, .bool y5]) (oval v f (a, b, x1, y1))) ∧ Below w.heap.size w w' := by
 refine one_any s1 p1 k1 c1 q1 l1 d1 sz1 pz1 kz1 cz1 qz1 lz1 dz1 x1 y1 v g cap _ _ w fun W hW hBv hBo => ?_
 unfold ocode oval
 cases hL : (large a.2.1 a.2.2 || large b.2.1 b.2.2)
 ·have hla : ilarge (a, b, x1, y1) = false := hL
  rw [Bool.or_eq_false_iff] at hL
  rw [hla]
  cases v
  ·exact askI_err s1 p1 k1 c1 q1 l1 d1 sz1 pz1 kz1 cz1 qz1 lz1 dz1 x1 y1 _ _ a b 2 W (ha.below hW) (hb.below hW) hL.1 hL.2 (ht.below hW) enter_one1 fun W4 i3 s3 p3 k3 c3 q3 l3 d3 j3 sz3 pz3 kz3 cz3 qz3 lz3 dz3 e3 hW4 hS =>
    one1_arg i3 s3 p3 k3 c3 q3 l3 d3 j3 sz3 pz3 kz3 cz3 qz3 lz3 dz3 e3 (w.heap.size + 1) _ W4 (hBv.below hW4)
  ·cases he : (srd (a, b, x1, y1)).2.2
   ·have hh := hr rfl hL.1 hL.2 he
    have hopW := fun (W : World) (hW : Below w.heap.size w W) => hop rfl hL.1 hL.2 he W
    cases hbg : sbig (f (srd (a, b, x1, y1)))
    ·have hbb : ebig (f (srd (a, b, x1, y1))).1 = false ∧ ebig (f (srd (a, b, x1, y1))).2.1 = false := by
      unfold sbig at hbg
      rwa [Bool.or_eq_false_iff] at hbg
     exact askI_ok s1 p1 k1 c1 q1 l1 d1 sz1 pz1 kz1 cz1 qz1 lz1 dz1 x1 y1 _ _ a b _ W (ha.below hW) (hb.below hW) hL.1 hL.2 (ht.below hW) enter_one1 fun W4 i3 s3 p3 k3 c3 q3 l3 d3 j3 sz3 pz3 kz3 cz3 qz3 lz3 dz3 e3 hW4 hS =>
      one1_ok i3 s3 p3 k3 c3 q3 l3 d3 j3 sz3 pz3 kz3 cz3 qz3 lz3 dz3 e3 (w.heap.size + 1) (w.heap.size + 1 + 1) g cap _ _ W4 (hBv.below hW4) (hBo.below hW4) hS he hh.1 hbb hh.2 hfn fun W5 hW5 hS5 =>
       hop rfl hL.1 hL.2 he W5 i3 s3 p3 k3 c3 q3 l3 d3 j3 sz3 pz3 kz3 cz3 qz3 lz3 dz3 e3 ((hW.trans (hW4.mono hW.size)).trans (hW5.mono (hW.trans (hW4.mono hW.size)).size)) hS5
    ·exact askI_err s1 p1 k1 c1 q1 l1 d1 sz1 pz1 kz1 cz1 qz1 lz1 dz1 x1 y1 _ _ a b 1 W (ha.below hW) (hb.below hW) hL.1 hL.2 (ht.below hW) enter_one1 fun W4 i3 s3 p3 k3 c3 q3 l3 d3 j3 sz3 pz3 kz3 cz3 qz3 lz3 dz3 e3 hW4 hS =>
      one1_big i3 s3 p3 k3 c3 q3 l3 d3 j3 sz3 pz3 kz3 cz3 qz3 lz3 dz3 e3 (w.heap.size + 1) (w.heap.size + 1 + 1) g cap _ _ W4 (hBv.below hW4) (hBo.below hW4) hS he hh.1 hbg hh.2 hfn fun W5 hW5 hS5 =>
       hop rfl hL.1 hL.2 he W5 i3 s3 p3 k3 c3 q3 l3 d3 j3 sz3 pz3 kz3 cz3 qz3 lz3 dz3 e3 ((hW.trans (hW4.mono hW.size)).trans (hW5.mono (hW.trans (hW4.mono hW.size)).size)) hS5
   ·exact askI_ok s1 p1 k1 c1 q1 l1 d1 sz1 pz1 kz1 cz1 qz1 lz1 dz1 x1 y1 _ _ a b _ W (ha.below hW) (hb.below hW) hL.1 hL.2 (ht.below hW) enter_one1 fun W4 i3 s3 p3 k3 c3 q3 l3 d3 j3 sz3 pz3 kz3 cz3 qz3 lz3 dz3 e3 hW4 hS =>
     one1_empty i3 s3 p3 k3 c3 q3 l3 d3 j3 sz3 pz3 kz3 cz3 qz3 lz3 dz3 e3 (w.heap.size + 1) _ _ W4 (hBv.below hW4) hS he
 ·have hla : ilarge (a, b, x1, y1) = true := hL
  rw [hla]
  exact askI_large s1 p1 k1 c1 q1 l1 d1 sz1 pz1 kz1 cz1 qz1 lz1 dz1 x1 y1 _ _ a b W (ha.below hW) (hb.below hW) hL (ht.below hW)
def prec (p : Int) : Bool := decide (0 ≤ p) && decide (p ≤ 128)
theorem isPrecision_any (p : Int) (w : World) : Calls Tryz.prog 89 #[.int .i64 p] w fun e w' => e = .returned (.bool (prec p)) ∧ w = w' := by
 obtain ⟨b, hb⟩ : ∃ b, b = prec p := ⟨_, rfl⟩
 rw [← hb]
 have hb' : b = (decide (0 ≤ p) && decide (p ≤ 128)) := hb
 by_cases h0 : 0 ≤ p <;> by_cases h1 : p ≤ 128
 ·have f0 : decide (0 ≤ p) = true := decide_eq_true h0
  have f1 : decide (p ≤ 128) = true := decide_eq_true h1
  rw [f0, f1] at hb'
  have HB := hid hb'
  clear h0 h1 hb hb'
  go_enter Tryz.func89, Tryz.ntmps89
  go_wp2_with fail
  go_ret
  exact ⟨by rw [HB.out]; rfl, rfl⟩
 ·have f0 : decide (0 ≤ p) = true := decide_eq_true h0
  have f1 : decide (p ≤ 128) = false := decide_eq_false h1
  rw [f0, f1] at hb'
  have HB := hid hb'
  clear h0 h1 hb hb'
  go_enter Tryz.func89, Tryz.ntmps89
  go_wp2_with fail
  go_ret
  exact ⟨by rw [HB.out]; rfl, rfl⟩
 all_goals
  have f0 : decide (0 ≤ p) = false := decide_eq_false h0
  rw [f0] at hb'
  have HB := hid hb'
  clear h0 h1 hb hb'
  go_enter Tryz.func89, Tryz.ntmps89
  go_wp2_with fail
  go_ret
  exact ⟨by rw [HB.out]; rfl, rfl⟩
theorem Round1_ret {W : World} {B : Nat} {a0 a1 a2 a3 a4 a5 a6 a7 a8 : Value} {tm : Array Value} {R : Ending → World → Prop} (h2 : tm[3]?.getD undef = .pointer (some ⟨B, 0, none⟩)) (hV : Box W B #[a0, a1, a2, a3, a4, a5, a6, a7, a8]) (hR : R (.returned (.agg #[a0, a1, a2, a3, a4, a5, a6, a7, a8])) W) :
  bodyPost Tryz.prog Tryz.f90 R .ret { tmps := tm, defers := [] } W := by
 obtain ⟨g0, g1, g2, g3, g4, g5, g6, g7, g8, _⟩ := hV.cells9
 exact bodyPost_ret (v := .agg #[a0, a1, a2, a3, a4, a5, a6, a7, a8]) (by simp [results, Tryz.results90, go_sem, h2, g0, g1, g2, g3, g4, g5, g6, g7, g8]) rfl hR
theorem Round1_any (i1 : Int) (s1 : Bool) (p1 : Option Addr) (k1 c1 : Nat) (q1 : Option Addr) (l1 d1 : Nat) (j1 : Int) (sz1 : Bool) (pz1 : Option Addr) (kz1 cz1 : Nat) (qz1 : Option Addr) (lz1 dz1 : Nat) (e1 : Bool) (Bp : Nat) (pr : Nat) (x : (Int × Bool × Nat × Nat) × (Int × Bool × Nat × Nat) × Bool) (w : World) (h : SRep w (.agg #[.int .i64 i1, .bool s1, .slice p1 k1 c1, .slice q1 l1 d1, .int .i64 j1, .bool sz1, .slice pz1 kz1 cz1, .slice qz1 lz1 dz1, .bool e1]) x) (hx : EOk 1000 x.1 ∧ EOk 1000 x.2.1) (hp : pr ≤ 1000000) (ht : TabOk w) (hB : Box w Bp #[.int .i64 (pr : Int)]) :
  Calls Tryz.prog 90 #[.agg #[.int .i64 i1, .bool s1, .slice p1 k1 c1, .slice q1 l1 d1, .int .i64 j1, .bool sz1, .slice pz1 kz1 cz1, .slice qz1 lz1 dz1, .bool e1], .pointer (some ⟨Bp, 0, none⟩)] w fun e w' => ∃ i3 s3 p3 k3 c3 q3 l3 d3 j3 sz3 pz3 kz3 cz3 qz3 lz3 dz3 e3, e = .returned (.agg #[.int .i64 i3, .bool s3, .slice p3 k3 c3, .slice q3 l3 d3, .int .i64 j3, .bool sz3, .slice pz3 kz3 cz3, .slice qz3 lz3 dz3, .bool e3]) ∧ Hid (SRep w' (.agg #[.int .i64 i3, .bool s3, .slice p3 k3 c3, .slice q3 l3 d3, .int .i64 j3, .bool sz3, .slice pz3 kz3 cz3, .slice qz3 lz3 dz3, .bool e3]) (sround x pr)) ∧ Below w.heap.size w w' := by
 have HR := hid (fun (W : World) (hW : Below w.heap.size w W) => sround_any i1 s1 p1 k1 c1 q1 l1 d1 j1 sz1 pz1 kz1 cz1 qz1 lz1 dz1 e1 pr x W (h.below hW) hx hp (ht.below hW))
 obtain ⟨r, hr⟩ : ∃ r, r = sround x pr := ⟨_, rfl⟩
 rw [← hr] at HR ⊢
 obtain ⟨pi, hpi⟩ : ∃ pi : Int, pi = (pr : Int) := ⟨_, rfl⟩
 rw [← hpi] at HR hB
 have HP := hid hB
 have hlt := hB.lt
 clear h hx hp ht hr hpi hB
 go_enter Tryz.func90, Tryz.ntmps90
 go_upto_region 1 with fail
 generalize hA : World.alloc _ _ = W0
 have HV := hid (pre2_o hA nd_S nd_S)
 clear hA
 obtain ⟨t0, _⟩ := (HP.out.below HV.out.2.2).cells1
 obtain ⟨m0, m1, m2, m3, m4, m5, m6, m7, m8, _⟩ := HV.out.1.cells9
 go_wp2_with fail
 refine (HR.out _ HV.out.2.2).mono ?_
 rintro e w3 ⟨i3, s3, p3, k3, c3, q3, l3, d3, j3, sz3, pz3, kz3, cz3, qz3, lz3, dz3, e3, rfl, hS, hB3⟩
 clear m0 m1 m2 m3 m4 m5 m6 m7 m8 t0
 have HE3 := hid (And.intro (HV.out.2.1.below hB3) (HV.out.2.2.trans (hB3.mono HV.out.2.2.size)))
 clear hB3
 obtain ⟨g0, g1, g2, g3, g4, g5, g6, g7, g8, n0, n1, n2, n3, n4, n5, n6, n7, n8⟩ := HE3.out.1.cells9
 go_wp2_with fail
 exact Round1_ret rfl (HE3.out.1.stores [.int .i64 i3, .bool s3, .slice p3 k3 c3, .slice q3 l3 d3, .int .i64 j3, .bool sz3, .slice pz3 kz3 cz3, .slice qz3 lz3 dz3, .bool e3] rfl nd_S) ⟨i3, s3, p3, k3, c3, q3, l3, d3, j3, sz3, pz3, kz3, cz3, qz3, lz3, dz3, e3, rfl, hid (SRep.stores (k := 0) (l := [.int .i64 i3, .bool s3, .slice p3 k3 c3, .slice q3 l3 d3, .int .i64 j3, .bool sz3, .slice pz3 kz3 cz3, .slice qz3 lz3 dz3, .bool e3]) hS.out HE3.out.1 nd_S), Below.stores (k := 0) (l := [.int .i64 i3, .bool s3, .slice p3 k3 c3, .slice q3 l3 d3, .int .i64 j3, .bool sz3, .slice pz3 kz3 cz3, .slice qz3 lz3 dz3, .bool e3]) HE3.out.2 (by omega)⟩
theorem enter_Round1 (args : Array Value) (w : World) : (callFunc 90 args).run Tryz.prog w = .ok (.enter 90 args) w := call_enter Tryz.func90 (by kernel_rfl) rfl args w
def srnd (p : Int) (x : (Int × Bool × Nat × Nat) × (Int × Bool × Nat × Nat) × Bool) : (Int × Bool × Nat × Nat) × (Int × Bool × Nat × Nat) × Bool := sround x p.toNat
theorem iRound_ret {W : World} {B : Nat} {a0 a1 a2 a3 a4 a5 a6 a7 ev : Value} {tm : Array Value} {R : Ending → World → Prop} (h2 : tm[4]?.getD undef = .pointer (some ⟨B, 0, none⟩)) (h3 : tm[5]?.getD undef = ev) (hV : Box W B #[a0, a1, a2, a3, a4, a5, a6, a7]) (hR : R (.returned (.tuple #[.agg #[a0, a1, a2, a3, a4, a5, a6, a7], ev])) W) :
  bodyPost Tryz.prog Tryz.f41 R .ret { tmps := tm, defers := [] } W := by
 obtain ⟨g0, g1, g2, g3, g4, g5, g6, g7, _⟩ := hV.cells8
 exact bodyPost_ret (v := .tuple #[.agg #[a0, a1, a2, a3, a4, a5, a6, a7], ev]) (by simp [results, Tryz.results41, go_sem, h2, h3, g0, g1, g2, g3, g4, g5, g6, g7]) rfl hR
theorem iRound_any (s1 : Bool) (p1 : Option Addr) (k1 c1 : Nat) (q1 : Option Addr) (l1 d1 : Nat) (sz1 : Bool) (pz1 : Option Addr) (kz1 cz1 : Nat) (qz1 : Option Addr) (lz1 dz1 : Nat) (x1 : Bool) (y1 : Bool) (a b : Bool × Nat × Nat) (p : Int) (w : World) (ha : NRep w (.agg #[.bool s1, .slice p1 k1 c1, .slice q1 l1 d1]) a) (hb : NRep w (.agg #[.bool sz1, .slice pz1 kz1 cz1, .slice qz1 lz1 dz1]) b) (ht : TabOk w) :
  Calls Tryz.prog 41 #[.agg #[.bool s1, .slice p1 k1 c1, .slice q1 l1 d1, .bool sz1, .slice pz1 kz1 cz1, .slice qz1 lz1 dz1, .bool x1, .bool y1], .int .i64 p] w fun e w' => ∃ s5 p5 k5 c5 q5 l5 d5 sz5 pz5 kz5 cz5 qz5 lz5 dz5 x5 y5, e = .returned (.tuple #[.agg #[.bool s5, .slice p5 k5 c5, .slice q5 l5 d5, .bool sz5, .slice pz5 kz5 cz5, .slice qz5 lz5 dz5, .bool x5, .bool y5], .int .i64 (ocode (prec p) (srnd p) (a, b, x1, y1))]) ∧ Hid (GRep w' (.agg #[.bool s5, .slice p5 k5 c5, .slice q5 l5 d5, .bool sz5, .slice pz5 kz5 cz5, .slice qz5 lz5 dz5, .bool x5, .bool y5]) (oval (prec p) (srnd p) (a, b, x1, y1))) ∧ Below w.heap.size w w' := by
 have hmf := makeFunc_run
 have HC := hid (fun (W : World) (hW : Below w.heap.size w W) (b3 : Box W (w.heap.size + 1) #[.int .i64 p]) =>
  one_gen s1 p1 k1 c1 q1 l1 d1 sz1 pz1 kz1 cz1 qz1 lz1 dz1 x1 y1 (prec p) 90 #[.pointer (some ⟨w.heap.size + 1, 0, none⟩)] (srnd p) a b W (ha.below hW) (hb.below hW) (ht.below hW) enter_Round1
   (fun hv h1 h2 _ => by
    unfold prec at hv
    rw [Bool.and_eq_true, decide_eq_true_eq, decide_eq_true_eq] at hv
    exact ⟨⟨((rdE_ok (inf := x1) (g := -1) (.inr rfl) h1).le (by omega)).dn (by omega), ((rdE_ok (inf := y1) (g := 1) (.inl rfl) h2).le (by omega)).up (by omega)⟩, rfl⟩)
   (fun hv h1 h2 _ W' i3 s3 p3 k3 c3 q3 l3 d3 j3 sz3 pz3 kz3 cz3 qz3 lz3 dz3 e3 hW' hS => by
    unfold prec at hv
    rw [Bool.and_eq_true, decide_eq_true_eq, decide_eq_true_eq] at hv
    obtain ⟨pr, rfl⟩ := Int.eq_ofNat_of_zero_le hv.1
    exact Round1_any i3 s3 p3 k3 c3 q3 l3 d3 j3 sz3 pz3 kz3 cz3 qz3 lz3 dz3 e3 (w.heap.size + 1) pr _ W' hS ⟨(rdE_ok (inf := x1) (g := -1) (.inr rfl) h1).le (by omega), (rdE_ok (inf := y1) (g := 1) (.inl rfl) h2).le (by omega)⟩ (by omega) ((ht.below hW).below hW') (b3.below hW')))
 have HPr := hid (isPrecision_any p)
 obtain ⟨v, hv⟩ : ∃ r, r = prec p := ⟨_, rfl⟩
 rw [← hv] at HC HPr ⊢
 obtain ⟨D, hD⟩ : ∃ D, D = oval v (srnd p) (a, b, x1, y1) := ⟨_, rfl⟩
 obtain ⟨c, hc⟩ : ∃ D, D = ocode v (srnd p) (a, b, x1, y1) := ⟨_, rfl⟩
 rw [← hD, ← hc] at HC ⊢
 clear ha hb ht hD hc hv
 go_enter Tryz.func41, Tryz.ntmps41
 go_wp2_with fail
 generalize hA : World.alloc _ _ = W0
 have HV := hid (pre3_o hA nd8 nd1 nd8)
 clear hA
 have HQ := hid (QQ.i2 (cs := [.bool s1, .slice p1 k1 c1, .slice q1 l1 d1, .bool sz1, .slice pz1 kz1 cz1, .slice qz1 lz1 dz1, .bool x1, .bool y1]) (cs' := [.int .i64 p]) HV.out.1 HV.out.2.1 HV.out.2.2.2)
 have HS := hid (fun (w' : World) (hb : QQ w [(w.heap.size, [.bool s1, .slice p1 k1 c1, .slice q1 l1 d1, .bool sz1, .slice pz1 kz1 cz1, .slice qz1 lz1 dz1, .bool x1, .bool y1]), (w.heap.size + 1, [.int .i64 p])] w') => hb.s_8_1)
 have HN : Hid (Apart [(w.heap.size, [.bool s1, .slice p1 k1 c1, .slice q1 l1 d1, .bool sz1, .slice pz1 kz1 cz1, .slice qz1 lz1 dz1, .bool x1, .bool y1]), (w.heap.size + 1, [.int .i64 p])] (w.heap.size + 1 + 1)) := hid (ne2 (by omega) (by omega))
 have HI : Hid (w.heap.size ≤ w.heap.size + 1 + 1) := hid (by omega)
 go_region_held3 (fun w' => w'.cell? ⟨w.heap.size, 0, none⟩ = some (.bool s1) ∧ w'.cell? ⟨w.heap.size, 1, none⟩ = some (.slice p1 k1 c1) ∧ w'.cell? ⟨w.heap.size, 2, none⟩ = some (.slice q1 l1 d1) ∧ w'.cell? ⟨w.heap.size, 3, none⟩ = some (.bool sz1) ∧ w'.cell? ⟨w.heap.size, 4, none⟩ = some (.slice pz1 kz1 cz1) ∧ w'.cell? ⟨w.heap.size, 5, none⟩ = some (.slice qz1 lz1 dz1) ∧ w'.cell? ⟨w.heap.size, 6, none⟩ = some (.bool x1) ∧ w'.cell? ⟨w.heap.size, 7, none⟩ = some (.bool y1) ∧ w'.cell? ⟨w.heap.size + 1, 0, none⟩ = some (.int .i64 p) ∧ Hid (QQ w [(w.heap.size, [.bool s1, .slice p1 k1 c1, .slice q1 l1 d1, .bool sz1, .slice pz1 kz1 cz1, .slice qz1 lz1 dz1, .bool x1, .bool y1]), (w.heap.size + 1, [.int .i64 p])] w'))
  (first | (refine HS.out _ ?_; first | (with_reducible exact HQ.out.drew) | (with_reducible assumption) | (with_reducible refine QQ.st8 ?_ HN.out HI.out; assumption)))
  (first
   | (go_at_call 89; refine (HPr.out _).mono ?_; rintro e wa ⟨rfl, rfl⟩)
   | (go_at_call 88; refine (HC.out _ HQ.out.drew.bel (HV.out.2.1.drew)).mono ?_; rintro e wb ⟨s5, p5, k5, c5, q5, l5, d5, sz5, pz5, kz5, cz5, qz5, lz5, dz5, x5, y5, rfl, hG, hB2⟩; have hQ2 := HQ.out.drew.call hB2; have hV2 := (HV.out.2.2.1.drew).below hB2; obtain ⟨g0, g1, g2, g3, g4, g5, g6, g7, f0, f1, f2, f3, f4, f5, f6, f7⟩ := hV2.cells8))
 all_goals
  have HE := hid (And.intro hV2 (And.intro hG.out hQ2.bel))
  clear hQ2 hV2 hB2 hG
  go_wp2_with fail
  exact iRound_ret rfl rfl (HE.out.1.stores [.bool s5, .slice p5 k5 c5, .slice q5 l5 d5, .bool sz5, .slice pz5 kz5 cz5, .slice qz5 lz5 dz5, .bool x5, .bool y5] rfl nd8) ⟨s5, p5, k5, c5, q5, l5, d5, sz5, pz5, kz5, cz5, qz5, lz5, dz5, x5, y5, rfl, hid (GRep.stores (k := 0) (l := [.bool s5, .slice p5 k5 c5, .slice q5 l5 d5, .bool sz5, .slice pz5 kz5 cz5, .slice qz5 lz5 dz5, .bool x5, .bool y5]) HE.out.2.1 HE.out.1 nd8), Below.stores (k := 0) (l := [.bool s5, .slice p5 k5 c5, .slice q5 l5 d5, .bool sz5, .slice pz5 kz5 cz5, .slice qz5 lz5 dz5, .bool x5, .bool y5]) HE.out.2.2 HI.out⟩
def jround (r : (Bool × Nat × Nat) × (Bool × Nat × Nat) × Bool × Bool × Bool) (p : Nat) : (Bool × Nat × Nat) × (Bool × Nat × Nat) × Bool × Bool × Bool := if r.2.2.2.2 then r else (if r.2.2.1 then r.1 else gdn r.1 p, if r.2.2.2.1 then r.2.1 else gup r.2.1 p, r.2.2.1, r.2.2.2.1, false)
def jbig (r : (Bool × Nat × Nat) × (Bool × Nat × Nat) × Bool × Bool × Bool) : Bool := big r.1.2.1 r.1.2.2 || big r.2.1.2.1 r.2.1.2.2
theorem askBothI_err (s1 : Bool) (p1 : Option Addr) (k1 c1 : Nat) (q1 : Option Addr) (l1 d1 : Nat) (sz1 : Bool) (pz1 : Option Addr) (kz1 cz1 : Nat) (qz1 : Option Addr) (lz1 dz1 : Nat) (x1 : Bool) (y1 : Bool) (s2 : Bool) (p2 : Option Addr) (k2 c2 : Nat) (q2 : Option Addr) (l2 d2 : Nat) (sz2 : Bool) (pz2 : Option Addr) (kz2 cz2 : Nat) (qz2 : Option Addr) (lz2 dz2 : Nat) (x2 : Bool) (y2 : Bool) (g : FuncId) (cap : Array Value) (a b a' b' : Bool × Nat × Nat) (c : Int) (w : World) (ha : NRep w (.agg #[.bool s1, .slice p1 k1 c1, .slice q1 l1 d1]) a) (hb : NRep w (.agg #[.bool sz1, .slice pz1 kz1 cz1, .slice qz1 lz1 dz1]) b) (ha' : NRep w (.agg #[.bool s2, .slice p2 k2 c2, .slice q2 l2 d2]) a') (hb' : NRep w (.agg #[.bool sz2, .slice pz2 kz2 cz2, .slice qz2 lz2 dz2]) b')
  (h1 : large a.2.1 a.2.2 = false) (h2 : large b.2.1 b.2.2 = false) (h3 : large a'.2.1 a'.2.2 = false) (h4 : large b'.2.1 b'.2.2 = false) (ht : TabOk w)
  (hfn : ∀ args W, (callFunc g args).run Tryz.prog W = .ok (.enter g args) W)
  (hop : ∀ W (i3 : Int) (s3 : Bool) (p3 : Option Addr) (k3 c3 : Nat) (q3 : Option Addr) (l3 d3 : Nat) (j3 : Int) (sz3 : Bool) (pz3 : Option Addr) (kz3 cz3 : Nat) (qz3 : Option Addr) (lz3 dz3 : Nat) (e3 : Bool) (i4 : Int) (s4 : Bool) (p4 : Option Addr) (k4 c4 : Nat) (q4 : Option Addr) (l4 d4 : Nat) (j4 : Int) (sz4 : Bool) (pz4 : Option Addr) (kz4 cz4 : Nat) (qz4 : Option Addr) (lz4 dz4 : Nat) (e4 : Bool), Below w.heap.size w W → SRep W (.agg #[.int .i64 i3, .bool s3, .slice p3 k3 c3, .slice q3 l3 d3, .int .i64 j3, .bool sz3, .slice pz3 kz3 cz3, .slice qz3 lz3 dz3, .bool e3]) (srd (a, b, x1, y1)) → SRep W (.agg #[.int .i64 i4, .bool s4, .slice p4 k4 c4, .slice q4 l4 d4, .int .i64 j4, .bool sz4, .slice pz4 kz4 cz4, .slice qz4 lz4 dz4, .bool e4]) (srd (a', b', x2, y2)) → Calls Tryz.prog g (#[.agg #[.int .i64 i3, .bool s3, .slice p3 k3 c3, .slice q3 l3 d3, .int .i64 j3, .bool sz3, .slice pz3 kz3 cz3, .slice qz3 lz3 dz3, .bool e3], .agg #[.int .i64 i4, .bool s4, .slice p4 k4 c4, .slice q4 l4 d4, .int .i64 j4, .bool sz4, .slice pz4 kz4 cz4, .slice qz4 lz4 dz4, .bool e4]] ++ cap) W fun e w' => e = pan c ∧ Below W.heap.size W w') :
  Calls Tryz.prog 69 #[.agg #[.bool s1, .slice p1 k1 c1, .slice q1 l1 d1, .bool sz1, .slice pz1 kz1 cz1, .slice qz1 lz1 dz1, .bool x1, .bool y1], .agg #[.bool s2, .slice p2 k2 c2, .slice q2 l2 d2, .bool sz2, .slice pz2 kz2 cz2, .slice qz2 lz2 dz2, .bool x2, .bool y2], .func (.func g) #[] cap] w fun e w' => ∃ s5 p5 k5 c5 q5 l5 d5 sz5 pz5 kz5 cz5 qz5 lz5 dz5 x5 y5, e = .returned (.tuple #[.agg #[.bool s5, .slice p5 k5 c5, .slice q5 l5 d5, .bool sz5, .slice pz5 kz5 cz5, .slice qz5 lz5 dz5, .bool x5, .bool y5], .int .i64 c]) ∧ Hid (GRep w' (.agg #[.bool s5, .slice p5 k5 c5, .slice q5 l5 d5, .bool sz5, .slice pz5 kz5 cz5, .slice qz5 lz5 dz5, .bool x5, .bool y5]) gzero) ∧ Below w.heap.size w w' := by
 refine askBothI_any s1 p1 k1 c1 q1 l1 d1 sz1 pz1 kz1 cz1 qz1 lz1 dz1 x1 y1 s2 p2 k2 c2 q2 l2 d2 sz2 pz2 kz2 cz2 qz2 lz2 dz2 x2 y2 g cap gzero c w fun W hW b1 b2 b3 => fin_zero (finI_err _ _ c W enter_askBothI1 fun W3 hW3 => ?_)
 exact askBothI1_err w.heap.size (w.heap.size + 1) (w.heap.size + 1 + 1) s1 p1 k1 c1 q1 l1 d1 sz1 pz1 kz1 cz1 qz1 lz1 dz1 x1 y1 s2 p2 k2 c2 q2 l2 d2 sz2 pz2 kz2 cz2 qz2 lz2 dz2 x2 y2 g cap a b a' b' c W3 (b1.below hW3) (b2.below hW3) (b3.below hW3) ((ha.below hW).below hW3) ((hb.below hW).below hW3) ((ha'.below hW).below hW3) ((hb'.below hW).below hW3) h1 h2 h3 h4 ((ht.below hW).below hW3) hfn
  fun W2 i3 s3 p3 k3 c3 q3 l3 d3 j3 sz3 pz3 kz3 cz3 qz3 lz3 dz3 e3 i4 s4 p4 k4 c4 q4 l4 d4 j4 sz4 pz4 kz4 cz4 qz4 lz4 dz4 e4 h5 => hop W2 i3 s3 p3 k3 c3 q3 l3 d3 j3 sz3 pz3 kz3 cz3 qz3 lz3 dz3 e3 i4 s4 p4 k4 c4 q4 l4 d4 j4 sz4 pz4 kz4 cz4 qz4 lz4 dz4 e4 (hW.trans ((hW3.trans (h5.mono hW3.size)).mono hW.size))
theorem both1_big (i1 : Int) (s1 : Bool) (p1 : Option Addr) (k1 c1 : Nat) (q1 : Option Addr) (l1 d1 : Nat) (j1 : Int) (sz1 : Bool) (pz1 : Option Addr) (kz1 cz1 : Nat) (qz1 : Option Addr) (lz1 dz1 : Nat) (e1 : Bool) (i2 : Int) (s2 : Bool) (p2 : Option Addr) (k2 c2 : Nat) (q2 : Option Addr) (l2 d2 : Nat) (j2 : Int) (sz2 : Bool) (pz2 : Option Addr) (kz2 cz2 : Nat) (qz2 : Option Addr) (lz2 dz2 : Nat) (e2 : Bool) (Bv Bo : Nat) (g : FuncId) (cap : Array Value) (x y r : (Int × Bool × Nat × Nat) × (Int × Bool × Nat × Nat) × Bool) (w : World)
  (hBv : Box w Bv #[.bool true]) (hBo : Box w Bo #[.func (.func g) #[] cap]) (h : SRep w (.agg #[.int .i64 i1, .bool s1, .slice p1 k1 c1, .slice q1 l1 d1, .int .i64 j1, .bool sz1, .slice pz1 kz1 cz1, .slice qz1 lz1 dz1, .bool e1]) x) (h' : SRep w (.agg #[.int .i64 i2, .bool s2, .slice p2 k2 c2, .slice q2 l2 d2, .int .i64 j2, .bool sz2, .slice pz2 kz2 cz2, .slice qz2 lz2 dz2, .bool e2]) y) (hx : x.2.2 = false) (hy : y.2.2 = false)
  (hr : EOk 100000 r.1 ∧ EOk 100000 r.2.1) (hb : sbig r = true) (he : r.2.2 = false)
  (hfn : ∀ args W, (callFunc g args).run Tryz.prog W = .ok (.enter g args) W)
  (hop : ∀ W, Below w.heap.size w W → SRep W (.agg #[.int .i64 i1, .bool s1, .slice p1 k1 c1, .slice q1 l1 d1, .int .i64 j1, .bool sz1, .slice pz1 kz1 cz1, .slice qz1 lz1 dz1, .bool e1]) x → SRep W (.agg #[.int .i64 i2, .bool s2, .slice p2 k2 c2, .slice q2 l2 d2, .int .i64 j2, .bool sz2, .slice pz2 kz2 cz2, .slice qz2 lz2 dz2, .bool e2]) y → Calls Tryz.prog g (#[.agg #[.int .i64 i1, .bool s1, .slice p1 k1 c1, .slice q1 l1 d1, .int .i64 j1, .bool sz1, .slice pz1 kz1 cz1, .slice qz1 lz1 dz1, .bool e1], .agg #[.int .i64 i2, .bool s2, .slice p2 k2 c2, .slice q2 l2 d2, .int .i64 j2, .bool sz2, .slice pz2 kz2 cz2, .slice qz2 lz2 dz2, .bool e2]] ++ cap) W fun e w' => ∃ i3 s3 p3 k3 c3 q3 l3 d3 j3 sz3 pz3 kz3 cz3 qz3 lz3 dz3 e3, e = .returned (.agg #[.int .i64 i3, .bool s3, .slice p3 k3 c3, .slice q3 l3 d3, .int .i64 j3, .bool sz3, .slice pz3 kz3 cz3, .slice qz3 lz3 dz3, .bool e3]) ∧ Hid (SRep w' (.agg #[.int .i64 i3, .bool s3, .slice p3 k3 c3, .slice q3 l3 d3, .int .i64 j3, .bool sz3, .slice pz3 kz3 cz3, .slice qz3 lz3 dz3, .bool e3]) r) ∧ Below W.heap.size W w') :
  Calls Tryz.prog 111 #[.agg #[.int .i64 i1, .bool s1, .slice p1 k1 c1, .slice q1 l1 d1, .int .i64 j1, .bool sz1, .slice pz1 kz1 cz1, .slice qz1 lz1 dz1, .bool e1], .agg #[.int .i64 i2, .bool s2, .slice p2 k2 c2, .slice q2 l2 d2, .int .i64 j2, .bool sz2, .slice pz2 kz2 cz2, .slice qz2 lz2 dz2, .bool e2], .pointer (some ⟨Bv, 0, none⟩), .pointer (some ⟨Bo, 0, none⟩)] w fun e w' => e = pan 1 ∧ Below w.heap.size w w' := by
 have HO := hid (fun (W : World) (hW : Below w.heap.size w W) => hop W hW (h.below hW) (h'.below hW))
 have HI := hid (fun (W : World) (i3 : Int) (s3 : Bool) (p3 : Option Addr) (k3 c3 : Nat) (q3 : Option Addr) (l3 d3 : Nat) (j3 : Int) (sz3 : Bool) (pz3 : Option Addr) (kz3 cz3 : Nat) (qz3 : Option Addr) (lz3 dz3 : Nat) (e3 : Bool) (hS : SRep W (.agg #[.int .i64 i3, .bool s3, .slice p3 k3 c3, .slice q3 l3 d3, .int .i64 j3, .bool sz3, .slice pz3 kz3 cz3, .slice qz3 lz3 dz3, .bool e3]) r) => siv_big i3 s3 p3 k3 c3 q3 l3 d3 j3 sz3 pz3 kz3 cz3 qz3 lz3 dz3 e3 r W hS hr hb he)
 have e1' := h.ends.2.2
 have e2' := h'.ends.2.2
 rw [hx] at e1'
 rw [hy] at e2'
 subst e1' e2'
 have HP := hid (And.intro hBv hBo)
 have hlo := hBo.lt
 have hlv := hBv.lt
 clear h h' hx hy hr hb he hop hBv hBo
 go_enter Tryz.func111, Tryz.ntmps111
 go_upto_region 1 with fail
 generalize hA : World.alloc _ _ = W0
 have HV := hid (pre3_o hA nd9 nd9 nd8)
 clear hA
 obtain ⟨t0, _⟩ := (HP.out.1.below HV.out.2.2.2).cells1
 go_wp2_with fail
 refine (unless_ok 2 W0).mono ?_
 rintro e w1 ⟨rfl, rfl⟩
 clear t0
 obtain ⟨t0, _⟩ := (HP.out.2.below HV.out.2.2.2).cells1
 obtain ⟨m0, m1, m2, m3, m4, m5, m6, m7, m8, _⟩ := HV.out.1.cells9
 obtain ⟨n0, n1, n2, n3, n4, n5, n6, n7, n8, _⟩ := HV.out.2.1.cells9
 go_wp2_with fail
 refine (HO.out _ HV.out.2.2.2).mono ?_
 rintro e w2 ⟨i3, s3, p3, k3, c3, q3, l3, d3, j3, sz3, pz3, kz3, cz3, qz3, lz3, dz3, e3, rfl, hS, hB2⟩
 have HB2 := hid hB2
 clear hB2 t0 m0 m1 m2 m3 m4 m5 m6 m7 m8 n0 n1 n2 n3 n4 n5 n6 n7 n8
 go_wp2_with fail
 refine (HI.out w2 i3 s3 p3 k3 c3 q3 l3 d3 j3 sz3 pz3 kz3 cz3 qz3 lz3 dz3 e3 hS.out).mono ?_
 rintro e w3 ⟨rfl, hB3⟩
 exact ⟨rfl, rfl, HV.out.2.2.2.trans ((held_any HB2.out hB3).mono HV.out.2.2.2.size)⟩
def b2code (v : Bool) (f : (Int × Bool × Nat × Nat) × (Int × Bool × Nat × Nat) × Bool → (Int × Bool × Nat × Nat) × (Int × Bool × Nat × Nat) × Bool → (Int × Bool × Nat × Nat) × (Int × Bool × Nat × Nat) × Bool) (a b : (Bool × Nat × Nat) × (Bool × Nat × Nat) × Bool × Bool) : Int := if ilarge a || ilarge b then 1 else if v then (if (srd a).2.2 then 0 else if (srd b).2.2 then 0 else if sbig (f (srd a) (srd b)) then 1 else 0) else 2
def b2val (v : Bool) (f : (Int × Bool × Nat × Nat) × (Int × Bool × Nat × Nat) × Bool → (Int × Bool × Nat × Nat) × (Int × Bool × Nat × Nat) × Bool → (Int × Bool × Nat × Nat) × (Int × Bool × Nat × Nat) × Bool) (a b : (Bool × Nat × Nat) × (Bool × Nat × Nat) × Bool × Bool) : (Bool × Nat × Nat) × (Bool × Nat × Nat) × Bool × Bool := if ilarge a || ilarge b then gzero else if v then (if (srd a).2.2 then giv (srd a) else if (srd b).2.2 then giv (srd b) else if sbig (f (srd a) (srd b)) then gzero else giv (f (srd a) (srd b))) else gzero
theorem both_gen (s1 : Bool) (p1 : Option Addr) (k1 c1 : Nat) (q1 : Option Addr) (l1 d1 : Nat) (sz1 : Bool) (pz1 : Option Addr) (kz1 cz1 : Nat) (qz1 : Option Addr) (lz1 dz1 : Nat) (x1 : Bool) (y1 : Bool) (s2 : Bool) (p2 : Option Addr) (k2 c2 : Nat) (q2 : Option Addr) (l2 d2 : Nat) (sz2 : Bool) (pz2 : Option Addr) (kz2 cz2 : Nat) (qz2 : Option Addr) (lz2 dz2 : Nat) (x2 : Bool) (y2 : Bool) (v : Bool) (g : FuncId) (cap : Array Value) (f : (Int × Bool × Nat × Nat) × (Int × Bool × Nat × Nat) × Bool → (Int × Bool × Nat × Nat) × (Int × Bool × Nat × Nat) × Bool → (Int × Bool × Nat × Nat) × (Int × Bool × Nat × Nat) × Bool) (a b a' b' : Bool × Nat × Nat) (w : World) (ha : NRep w (.agg #[.bool s1, .slice p1 k1 c1, .slice q1 l1 d1]) a) (hb : NRep w (.agg #[.bool sz1, .slice pz1 kz1 cz1, .slice qz1 lz1 dz1]) b) (ha' : NRep w (.agg #[.bool s2, .slice p2 k2 c2, .slice q2 l2 d2]) a') (hb' : NRep w (.agg #[.bool sz2, .slice pz2 kz2 cz2, .slice qz2 lz2 dz2]) b') (ht : TabOk w)
  (hfn : ∀ args W, (callFunc g args).run Tryz.prog W = .ok (.enter g args) W)
  (hr : v = true → large a.2.1 a.2.2 = false → large b.2.1 b.2.2 = false → large a'.2.1 a'.2.2 = false → large b'.2.1 b'.2.2 = false → (srd (a, b, x1, y1)).2.2 = false → (srd (a', b', x2, y2)).2.2 = false →
   (EOk 100000 (f (srd (a, b, x1, y1)) (srd (a', b', x2, y2))).1 ∧ EOk 100000 (f (srd (a, b, x1, y1)) (srd (a', b', x2, y2))).2.1) ∧ (f (srd (a, b, x1, y1)) (srd (a', b', x2, y2))).2.2 = false)
  (hop : v = true → large a.2.1 a.2.2 = false → large b.2.1 b.2.2 = false → large a'.2.1 a'.2.2 = false → large b'.2.1 b'.2.2 = false → (srd (a, b, x1, y1)).2.2 = false → (srd (a', b', x2, y2)).2.2 = false →
   ∀ W (i1 : Int) (s1 : Bool) (p1 : Option Addr) (k1 c1 : Nat) (q1 : Option Addr) (l1 d1 : Nat) (j1 : Int) (sz1 : Bool) (pz1 : Option Addr) (kz1 cz1 : Nat) (qz1 : Option Addr) (lz1 dz1 : Nat) (e1 : Bool) (i2 : Int) (s2 : Bool) (p2 : Option Addr) (k2 c2 : Nat) (q2 : Option Addr) (l2 d2 : Nat) (j2 : Int) (sz2 : Bool) (pz2 : Option Addr) (kz2 cz2 : Nat) (qz2 : Option Addr) (lz2 dz2 : Nat) (e2 : Bool), Below w.heap.size w W → SRep W (.agg #[.int .i64 i1, .bool s1, .slice p1 k1 c1, .slice q1 l1 d1, .int .i64 j1, .bool sz1, .slice pz1 kz1 cz1, .slice qz1 lz1 dz1, .bool e1]) (srd (a, b, x1, y1)) → SRep W (.agg #[.int .i64 i2, .bool s2, .slice p2 k2 c2, .slice q2 l2 d2, .int .i64 j2, .bool sz2, .slice pz2 kz2 cz2, .slice qz2 lz2 dz2, .bool e2]) (srd (a', b', x2, y2)) → Calls Tryz.prog g (#[.agg #[.int .i64 i1, .bool s1, .slice p1 k1 c1, .slice q1 l1 d1, .int .i64 j1, .bool sz1, .slice pz1 kz1 cz1, .slice qz1 lz1 dz1, .bool e1], .agg #[.int .i64 i2, .bool s2, .slice p2 k2 c2, .slice q2 l2 d2, .int .i64 j2, .bool sz2, .slice pz2 kz2 cz2, .slice qz2 lz2 dz2, .bool e2]] ++ cap) W fun e w' => ∃ i3 s3 p3 k3 c3 q3 l3 d3 j3 sz3 pz3 kz3 cz3 qz3 lz3 dz3 e3, e = .returned (.agg #[.int .i64 i3, .bool s3, .slice p3 k3 c3, .slice q3 l3 d3, .int .i64 j3, .bool sz3, .slice pz3 kz3 cz3, .slice qz3 lz3 dz3, .bool e3]) ∧ Hid (SRep w' (.agg #[.int .i64 i3, .bool s3, .slice p3 k3 c3, .slice q3 l3 d3, .int .i64 j3, .bool sz3, .slice pz3 kz3 cz3, .slice qz3 lz3 dz3, .bool e3]) (f (srd (a, b, x1, y1)) (srd (a', b', x2, y2)))) ∧ Below W.heap.size W w') :
  Calls Tryz.prog 58 #[.agg #[.bool s1, .slice p1 k1 c1, .slice q1 l1 d1, .bool sz1, .slice pz1 kz1 cz1, .slice qz1 lz1 dz1, .bool x1, .bool y1], .agg #[.bool s2, .slice p2 k2 c2, .slice q2 l2 d2, .bool sz2, .slice pz2 kz2 cz2, .slice qz2 lz2 dz2, .bool x2, .bool y2], .bool v, .func (.func g) #[] cap] w fun e w' => ∃ s5 p5 k5 c5 q5 l5 d5 sz5 pz5 kz5 cz5 qz5 lz5 dz5 x5 y5, e = .returned (.tuple #[.agg #[.bool s5, .slice p5 k5 c5, .slice q5 l5 d5, .bool sz5, .slice pz5 kz5 cz5, .slice qz5 lz5 dz5, .bool x5, .bool y5], .int .i64 (b2code v f (a, b, x1, y1) (a', b', x2, y2))]) ∧ Hid (GRep w' (.agg #[.bool s5, .slice p5 k5 c5, .slice q5 l5 d5, .bool sz5, .slice pz5 kz5 cz5, .slice qz5 lz5 dz5, .bool x5, .bool y5]) (b2val v f (a, b, x1, y1) (a', b', x2, y2))) ∧ Below w.heap.size w w' := by
 refine both_any s1 p1 k1 c1 q1 l1 d1 sz1 pz1 kz1 cz1 qz1 lz1 dz1 x1 y1 s2 p2 k2 c2 q2 l2 d2 sz2 pz2 kz2 cz2 qz2 lz2 dz2 x2 y2 v g cap _ _ w fun W hW hBv hBo => ?_
 unfold b2code b2val
 cases hL : (ilarge (a, b, x1, y1) || ilarge (a', b', x2, y2))
 ·rw [Bool.or_eq_false_iff] at hL
  have hl1 : (large a.2.1 a.2.2 || large b.2.1 b.2.2) = false := hL.1
  have hl2 : (large a'.2.1 a'.2.2 || large b'.2.1 b'.2.2) = false := hL.2
  rw [Bool.or_eq_false_iff] at hl1 hl2
  cases v
  ·exact askBothI_err s1 p1 k1 c1 q1 l1 d1 sz1 pz1 kz1 cz1 qz1 lz1 dz1 x1 y1 s2 p2 k2 c2 q2 l2 d2 sz2 pz2 kz2 cz2 qz2 lz2 dz2 x2 y2 _ _ a b a' b' 2 W (ha.below hW) (hb.below hW) (ha'.below hW) (hb'.below hW) hl1.1 hl1.2 hl2.1 hl2.2 (ht.below hW) enter_both1 fun W4 i3 s3 p3 k3 c3 q3 l3 d3 j3 sz3 pz3 kz3 cz3 qz3 lz3 dz3 e3 i4 s4 p4 k4 c4 q4 l4 d4 j4 sz4 pz4 kz4 cz4 qz4 lz4 dz4 e4 hW4 hS hT =>
    both1_arg i3 s3 p3 k3 c3 q3 l3 d3 j3 sz3 pz3 kz3 cz3 qz3 lz3 dz3 e3 i4 s4 p4 k4 c4 q4 l4 d4 j4 sz4 pz4 kz4 cz4 qz4 lz4 dz4 e4 (w.heap.size + 1 + 1) _ W4 (hBv.below hW4)
  ·cases he : (srd (a, b, x1, y1)).2.2
   ·cases he' : (srd (a', b', x2, y2)).2.2
    ·have hh := hr rfl hl1.1 hl1.2 hl2.1 hl2.2 he he'
     cases hbg : sbig (f (srd (a, b, x1, y1)) (srd (a', b', x2, y2)))
     ·have hbb : ebig (f (srd (a, b, x1, y1)) (srd (a', b', x2, y2))).1 = false ∧ ebig (f (srd (a, b, x1, y1)) (srd (a', b', x2, y2))).2.1 = false := by
       unfold sbig at hbg
       rwa [Bool.or_eq_false_iff] at hbg
      exact askBothI_ok s1 p1 k1 c1 q1 l1 d1 sz1 pz1 kz1 cz1 qz1 lz1 dz1 x1 y1 s2 p2 k2 c2 q2 l2 d2 sz2 pz2 kz2 cz2 qz2 lz2 dz2 x2 y2 _ _ a b a' b' _ W (ha.below hW) (hb.below hW) (ha'.below hW) (hb'.below hW) hl1.1 hl1.2 hl2.1 hl2.2 (ht.below hW) enter_both1 fun W4 i3 s3 p3 k3 c3 q3 l3 d3 j3 sz3 pz3 kz3 cz3 qz3 lz3 dz3 e3 i4 s4 p4 k4 c4 q4 l4 d4 j4 sz4 pz4 kz4 cz4 qz4 lz4 dz4 e4 hW4 hS hT =>
       both1_ok i3 s3 p3 k3 c3 q3 l3 d3 j3 sz3 pz3 kz3 cz3 qz3 lz3 dz3 e3 i4 s4 p4 k4 c4 q4 l4 d4 j4 sz4 pz4 kz4 cz4 qz4 lz4 dz4 e4 (w.heap.size + 1 + 1) (w.heap.size + 1 + 1 + 1) g cap _ _ _ W4 (hBv.below hW4) (hBo.below hW4) hS hT he he' hh.1 hbb hh.2 hfn fun W5 hW5 hS5 hT5 =>
        hop rfl hl1.1 hl1.2 hl2.1 hl2.2 he he' W5 i3 s3 p3 k3 c3 q3 l3 d3 j3 sz3 pz3 kz3 cz3 qz3 lz3 dz3 e3 i4 s4 p4 k4 c4 q4 l4 d4 j4 sz4 pz4 kz4 cz4 qz4 lz4 dz4 e4 ((hW.trans (hW4.mono hW.size)).trans (hW5.mono (hW.trans (hW4.mono hW.size)).size)) hS5 hT5
     ·exact askBothI_err s1 p1 k1 c1 q1 l1 d1 sz1 pz1 kz1 cz1 qz1 lz1 dz1 x1 y1 s2 p2 k2 c2 q2 l2 d2 sz2 pz2 kz2 cz2 qz2 lz2 dz2 x2 y2 _ _ a b a' b' 1 W (ha.below hW) (hb.below hW) (ha'.below hW) (hb'.below hW) hl1.1 hl1.2 hl2.1 hl2.2 (ht.below hW) enter_both1 fun W4 i3 s3 p3 k3 c3 q3 l3 d3 j3 sz3 pz3 kz3 cz3 qz3 lz3 dz3 e3 i4 s4 p4 k4 c4 q4 l4 d4 j4 sz4 pz4 kz4 cz4 qz4 lz4 dz4 e4 hW4 hS hT =>
       both1_big i3 s3 p3 k3 c3 q3 l3 d3 j3 sz3 pz3 kz3 cz3 qz3 lz3 dz3 e3 i4 s4 p4 k4 c4 q4 l4 d4 j4 sz4 pz4 kz4 cz4 qz4 lz4 dz4 e4 (w.heap.size + 1 + 1) (w.heap.size + 1 + 1 + 1) g cap _ _ _ W4 (hBv.below hW4) (hBo.below hW4) hS hT he he' hh.1 hbg hh.2 hfn fun W5 hW5 hS5 hT5 =>
        hop rfl hl1.1 hl1.2 hl2.1 hl2.2 he he' W5 i3 s3 p3 k3 c3 q3 l3 d3 j3 sz3 pz3 kz3 cz3 qz3 lz3 dz3 e3 i4 s4 p4 k4 c4 q4 l4 d4 j4 sz4 pz4 kz4 cz4 qz4 lz4 dz4 e4 ((hW.trans (hW4.mono hW.size)).trans (hW5.mono (hW.trans (hW4.mono hW.size)).size)) hS5 hT5
    ·exact askBothI_ok s1 p1 k1 c1 q1 l1 d1 sz1 pz1 kz1 cz1 qz1 lz1 dz1 x1 y1 s2 p2 k2 c2 q2 l2 d2 sz2 pz2 kz2 cz2 qz2 lz2 dz2 x2 y2 _ _ a b a' b' _ W (ha.below hW) (hb.below hW) (ha'.below hW) (hb'.below hW) hl1.1 hl1.2 hl2.1 hl2.2 (ht.below hW) enter_both1 fun W4 i3 s3 p3 k3 c3 q3 l3 d3 j3 sz3 pz3 kz3 cz3 qz3 lz3 dz3 e3 i4 s4 p4 k4 c4 q4 l4 d4 j4 sz4 pz4 kz4 cz4 qz4 lz4 dz4 e4 hW4 hS hT =>
      both1_e2 i3 s3 p3 k3 c3 q3 l3 d3 j3 sz3 pz3 kz3 cz3 qz3 lz3 dz3 e3 i4 s4 p4 k4 c4 q4 l4 d4 j4 sz4 pz4 kz4 cz4 qz4 lz4 dz4 e4 (w.heap.size + 1 + 1) _ _ _ W4 (hBv.below hW4) hS he hT he'
   ·exact askBothI_ok s1 p1 k1 c1 q1 l1 d1 sz1 pz1 kz1 cz1 qz1 lz1 dz1 x1 y1 s2 p2 k2 c2 q2 l2 d2 sz2 pz2 kz2 cz2 qz2 lz2 dz2 x2 y2 _ _ a b a' b' _ W (ha.below hW) (hb.below hW) (ha'.below hW) (hb'.below hW) hl1.1 hl1.2 hl2.1 hl2.2 (ht.below hW) enter_both1 fun W4 i3 s3 p3 k3 c3 q3 l3 d3 j3 sz3 pz3 kz3 cz3 qz3 lz3 dz3 e3 i4 s4 p4 k4 c4 q4 l4 d4 j4 sz4 pz4 kz4 cz4 qz4 lz4 dz4 e4 hW4 hS hT =>
     both1_e1 i3 s3 p3 k3 c3 q3 l3 d3 j3 sz3 pz3 kz3 cz3 qz3 lz3 dz3 e3 i4 s4 p4 k4 c4 q4 l4 d4 j4 sz4 pz4 kz4 cz4 qz4 lz4 dz4 e4 (w.heap.size + 1 + 1) _ _ W4 (hBv.below hW4) hS he
 ·exact askBothI_large s1 p1 k1 c1 q1 l1 d1 sz1 pz1 kz1 cz1 qz1 lz1 dz1 x1 y1 s2 p2 k2 c2 q2 l2 d2 sz2 pz2 kz2 cz2 qz2 lz2 dz2 x2 y2 _ _ a b a' b' W (ha.below hW) (hb.below hW) (ha'.below hW) (hb'.below hW) hL (ht.below hW)
theorem ecmp_fin2 (a b : Bool × Nat × Nat) : ecmp (0, a) (0, b) = fcmp a b := by unfold ecmp; simp
def SimQ (S : (Int × Bool × Nat × Nat) × (Int × Bool × Nat × Nat) × Bool) (J : (Bool × Nat × Nat) × (Bool × Nat × Nat) × Bool × Bool × Bool) : Prop := ∃ A B x y, (x = false → QFit A) ∧ (y = false → QFit B) ∧ S = (if x then (-1, false, 0, 0) else (0, A), if y then (1, false, 0, 0) else (0, B), false) ∧ J = (if x then (false, 0, 0) else A, if y then (false, 0, 0) else B, x, y, false)
theorem SimQ.of {a b : Bool × Nat × Nat} {x y : Bool} (h1 : large a.2.1 a.2.2 = false) (h2 : large b.2.1 b.2.2 = false) (he : (srd (a, b, x, y)).2.2 = false) : SimQ (srd (a, b, x, y)) (jof (a, b, x, y)) := by
 refine ⟨fr a, fr b, x, y, fun _ => QFit.of h1, fun _ => QFit.of h2, ?_, jof_in he⟩
 have e : srd (a, b, x, y) = ((srd (a, b, x, y)).1, (srd (a, b, x, y)).2.1, (srd (a, b, x, y)).2.2) := rfl
 rw [e, he]
 rfl
theorem fcmp_swap_pos (a b : Bool × Nat × Nat) : (0 < fcmp a b) ↔ (fcmp b a < 0) := by
 unfold fcmp cmpI
 generalize sv a.1 a.2.1 * (b.2.2 : Int) = u
 generalize sv b.1 b.2.1 * (a.2.2 : Int) = v
 by_cases h1 : u < v
 ·rw [if_pos h1]
  by_cases h2 : v < u
  ·omega
  ·rw [if_neg h2, if_pos h1]; omega
 ·rw [if_neg h1]
  by_cases h2 : v < u
  ·rw [if_pos h2]; omega
  ·rw [if_neg h2, if_neg h1]; omega
theorem JGood.shape {r : (Bool × Nat × Nat) × (Bool × Nat × Nat) × Bool × Bool × Bool} (h : JGood r) : r = jnone ∨ ∃ A B x y, (x = false → QFit A) ∧ (y = false → QFit B) ∧ (x = false → y = false → fcmp A B ≤ 0) ∧ r = (if x then (false, 0, 0) else A, if y then (false, 0, 0) else B, x, y, false) := by
 rcases h with h | ⟨he, hl, hh, ho⟩
 ·exact .inl h
 ·obtain ⟨A, B, x, y, e⟩ := r
  have he' : e = false := he
  subst he'
  refine .inr ⟨A, B, x, y, ?_, ?_, ?_, ?_⟩
  ·intro hx
   rcases hl with ⟨g, _⟩ | ⟨_, g⟩
   ·exact absurd (hx.symm.trans g) (by decide)
   ·exact g
  ·intro hx
   rcases hh with ⟨g, _⟩ | ⟨_, g⟩
   ·exact absurd (hx.symm.trans g) (by decide)
   ·exact g
  ·exact ho
  ·rcases hl with ⟨g, g'⟩ | ⟨g, _⟩ <;> rcases hh with ⟨k, k'⟩ | ⟨k, _⟩
   all_goals
    simp only at g k
    subst g k
    try simp only at g'
    try simp only at k'
    try subst g'
    try subst k'
    rfl
theorem fle3 {a b c : Bool × Nat × Nat} (ha : QFit a) (hb : QFit b) (hc : QFit c) (h : fcmp a b ≤ 0) (h' : fcmp b c ≤ 0) : fcmp a c ≤ 0 := fcmp_trans ha.1.pos hb.1.pos hc.1.pos h h'
def sinside (x y : (Int × Bool × Nat × Nat) × (Int × Bool × Nat × Nat) × Bool) : Bool := x.2.2 || (decide (ecmp y.1 x.1 ≤ 0) && decide (ecmp x.2.1 y.2.1 ≤ 0))
set_option maxHeartbeats 2000000 in
set_option maxRecDepth 100000 in
theorem sinside_any (i1 : Int) (s1 : Bool) (p1 : Option Addr) (k1 c1 : Nat) (q1 : Option Addr) (l1 d1 : Nat) (j1 : Int) (sz1 : Bool) (pz1 : Option Addr) (kz1 cz1 : Nat) (qz1 : Option Addr) (lz1 dz1 : Nat) (e1 : Bool) (i2 : Int) (s2 : Bool) (p2 : Option Addr) (k2 c2 : Nat) (q2 : Option Addr) (l2 d2 : Nat) (j2 : Int) (sz2 : Bool) (pz2 : Option Addr) (kz2 cz2 : Nat) (qz2 : Option Addr) (lz2 dz2 : Nat) (e2 : Bool) (x y : (Int × Bool × Nat × Nat) × (Int × Bool × Nat × Nat) × Bool) (w : World) (h : SRep w (.agg #[.int .i64 i1, .bool s1, .slice p1 k1 c1, .slice q1 l1 d1, .int .i64 j1, .bool sz1, .slice pz1 kz1 cz1, .slice qz1 lz1 dz1, .bool e1]) x) (h' : SRep w (.agg #[.int .i64 i2, .bool s2, .slice p2 k2 c2, .slice q2 l2 d2, .int .i64 j2, .bool sz2, .slice pz2 kz2 cz2, .slice qz2 lz2 dz2, .bool e2]) y) (hx : EOk 1000 x.1 ∧ EOk 1000 x.2.1) (hy : EOk 1000 y.1 ∧ EOk 1000 y.2.1) :
  Calls Tryz.prog 65 #[.agg #[.int .i64 i1, .bool s1, .slice p1 k1 c1, .slice q1 l1 d1, .int .i64 j1, .bool sz1, .slice pz1 kz1 cz1, .slice qz1 lz1 dz1, .bool e1], .agg #[.int .i64 i2, .bool s2, .slice p2 k2 c2, .slice q2 l2 d2, .int .i64 j2, .bool sz2, .slice pz2 kz2 cz2, .slice qz2 lz2 dz2, .bool e2]] w fun e w' => e = .returned (.bool (sinside x y)) ∧ Below w.heap.size w w' := by
 have h1 := h.ends
 have h2 := h'.ends
 have HL := hid (fun (W : World) (hW : Below w.heap.size w W) => ecompare_any i2 s2 p2 k2 c2 q2 l2 d2 i1 s1 p1 k1 c1 q1 l1 d1 y.1 x.1 1000 W (h2.1.below hW) (h1.1.below hW) hy.1 hx.1 (by omega))
 have HH := hid (fun (W : World) (hW : Below w.heap.size w W) => ecompare_any j1 sz1 pz1 kz1 cz1 qz1 lz1 dz1 j2 sz2 pz2 kz2 cz2 qz2 lz2 dz2 x.2.1 y.2.1 1000 W (h1.2.1.below hW) (h2.2.1.below hW) hx.2 hy.2 (by omega))
 have he := h1.2.2
 clear h h' hx hy h1 h2
 unfold sinside
 obtain ⟨rl, hrl⟩ : ∃ r, r = ecmp y.1 x.1 := ⟨_, rfl⟩
 obtain ⟨rh, hrh⟩ : ∃ r, r = ecmp x.2.1 y.2.1 := ⟨_, rfl⟩
 rw [← hrl] at HL ⊢
 rw [← hrh] at HH ⊢
 rw [← he]
 clear hrl hrh he
 cases e1
 ·rw [Bool.false_or]
  by_cases hl : rl ≤ 0
  ·rw [decide_eq_true hl, Bool.true_and]
   go_enter Tryz.func65, Tryz.ntmps65
   go_wp2_with fail
   generalize hA : World.alloc _ _ = W0
   have HV := hid (pre2_o hA nd9 nd9)
   clear hA
   refine (HL.out _ HV.out.2.2).mono ?_
   rintro e w1 ⟨rfl, hB1⟩
   have HE := hid (HV.out.2.2.trans (hB1.mono HV.out.2.2.size))
   obtain ⟨m0, m1, m2, m3, m4, m5, m6, m7, m8, _⟩ := (HV.out.1.below hB1).cells9
   obtain ⟨n0, n1, n2, n3, n4, n5, n6, n7, n8, _⟩ := (HV.out.2.1.below hB1).cells9
   clear hB1
   go_wp2_with fail
   refine (HH.out _ HE.out).mono ?_
   rintro e w2 ⟨rfl, hB2⟩
   have HE2 := hid (HE.out.trans (hB2.mono HE.out.size))
   clear hB2
   go_wp2_with fail
   go_ret
   exact ⟨rfl, HE2.out⟩
  ·rw [decide_eq_false hl, Bool.false_and]
   have hl' : decide (rl ≤ 0) = false := decide_eq_false hl
   go_enter Tryz.func65, Tryz.ntmps65
   go_wp2_with fail
   generalize hA : World.alloc _ _ = W0
   have HV := hid (pre2_o hA nd9 nd9)
   clear hA
   refine (HL.out _ HV.out.2.2).mono ?_
   rintro e w1 ⟨rfl, hB1⟩
   have HE := hid (HV.out.2.2.trans (hB1.mono HV.out.2.2.size))
   clear hB1
   go_wp2_with fail
   go_ret
   exact ⟨rfl, HE.out⟩
 ·rw [Bool.true_or]
  go_enter Tryz.func65, Tryz.ntmps65
  go_upto_region 1 with fail
  generalize hA : World.alloc _ _ = W0
  have HV := hid (pre2_o hA nd9 nd9)
  clear hA
  obtain ⟨m0, m1, m2, m3, m4, m5, m6, m7, m8, _⟩ := HV.out.1.cells9
  go_wp2_with fail
  go_ret
  exact ⟨rfl, HV.out.2.2⟩
def m2code (a b : (Bool × Nat × Nat) × (Bool × Nat × Nat) × Bool × Bool) : Int := if ilarge a || ilarge b then 1 else 0
end Go.Proofs.YtimjoejkjgklaaaGreatDoor
