/- Rounding of both sides: the mathematics. Round of both sides. -/
import Derived.Test.YtpdpabpdejmdbaaGreatDoorRndJ
import Derived.Test.YtpdpabpdejmdbaaGreatDoorStepsM
namespace Go.Proofs.YtpdpabpdejmdbaaGreatDoor
open Go.RowKit Dg

/-- A set of the reference that is not empty, its numbers in lowest terms and of any length. -/
def JFr (r : (Bool × Nat × Nat) × (Bool × Nat × Nat) × Bool × Bool × Bool) : Prop := r.2.2.2.2 = false ∧ ((r.2.2.1 = true ∧ r.1 = (false, 0, 0)) ∨ (r.2.2.1 = false ∧ IsFr r.1)) ∧ ((r.2.2.2.1 = true ∧ r.2.1 = (false, 0, 0)) ∨ (r.2.2.2.1 = false ∧ IsFr r.2.1)) ∧ (r.2.2.1 = false → r.2.2.2.1 = false → fcmp r.1 r.2.1 ≤ 0)
theorem JGood.fr {r : (Bool × Nat × Nat) × (Bool × Nat × Nat) × Bool × Bool × Bool} (h : JGood r) (he : r.2.2.2.2 = false) : JFr r := by
  rcases h with rfl | ⟨h1, h2, h3, h4⟩
  · exact absurd he (by decide)
  · exact ⟨h1, h2.imp id (fun h => ⟨h.1, h.2.1⟩), h3.imp id (fun h => ⟨h.1, h.2.1⟩), h4⟩
theorem grid_le {a b : Bool × Nat × Nat} (p : Nat) (ha : IsFr a) (hb : IsFr b) (h : fcmp a b ≤ 0) : fcmp (gdn a p) (gup b p) ≤ 0 := by
  obtain ⟨A, _, hA, _, h1, _, _, _⟩ := steps_math (t := a) (P := 2 ^ p) (p := p) rfl ha.pos
  obtain ⟨_, U, _, hU, _, _, _, h2⟩ := steps_math (t := b) (P := 2 ^ p) (p := p) rfl hb.pos
  have hP : (0 : Int) < ((2 ^ p : Nat) : Int) := by have : 0 < 2 ^ p := Nat.pow_pos (by decide); omega
  rw [fcmp_nonpos] at h
  rw [fcmp_Q hA hU hP hP]
  have da : (0 : Int) < (a.2.2 : Int) := by have := ha.pos; omega
  have db : (0 : Int) < (b.2.2 : Int) := by have := hb.pos; omega
  generalize (a.2.2 : Int) = Da at *
  generalize (b.2.2 : Int) = Db at *
  generalize sv a.1 a.2.1 = sa at *
  generalize sv b.1 b.2.1 = sb at *
  generalize ((2 ^ p : Nat) : Int) = P at *
  have e1 : A * Da * Db ≤ sa * P * Db := Int.mul_le_mul_of_nonneg_right h1 (Int.le_of_lt db)
  have e2 : sa * Db * P ≤ sb * Da * P := Int.mul_le_mul_of_nonneg_right h (Int.le_of_lt hP)
  have e3 : sb * P * Da ≤ U * Db * Da := Int.mul_le_mul_of_nonneg_right h2 (Int.le_of_lt da)
  have e4 : A * (Da * Db) ≤ U * (Da * Db) := by
    calc A * (Da * Db) = A * Da * Db := (Int.mul_assoc _ _ _).symm
      _ ≤ sa * P * Db := e1
      _ = sa * Db * P := by rw [Int.mul_assoc, Int.mul_comm P Db, ← Int.mul_assoc]
      _ ≤ sb * Da * P := e2
      _ = sb * P * Da := by rw [Int.mul_assoc, Int.mul_comm Da P, ← Int.mul_assoc]
      _ ≤ U * Db * Da := e3
      _ = U * (Da * Db) := by rw [Int.mul_assoc, Int.mul_comm Db Da]
  have e5 : A ≤ U := Int.le_of_mul_le_mul_right e4 (Int.mul_pos da db)
  have e6 : A * P ≤ U * P := Int.mul_le_mul_of_nonneg_right e5 (Int.le_of_lt hP)
  unfold cmpI
  split
  · decide
  · split
    · omega
    · decide
theorem QFit.of_small {t : Bool × Nat × Nat} (h : IsFr t) (hb : big t.2.1 t.2.2 = false) : QFit t := by
  unfold big at hb
  rw [decide_eq_false_iff_not] at hb
  exact ⟨h, by omega, by omega⟩
theorem JFr.round {r : (Bool × Nat × Nat) × (Bool × Nat × Nat) × Bool × Bool × Bool} (h : JFr r) (p : Nat) (hb : jbig (jround r p) = false) : JGood (jround r p) := by
  obtain ⟨he, hl, hh, hc⟩ := h
  unfold jround at hb ⊢
  rw [he] at hb ⊢
  unfold jbig at hb
  rw [Bool.or_eq_false_iff] at hb
  refine .inr ⟨rfl, ?_, ?_, ?_⟩
  · rcases hl with ⟨h1, h2⟩ | ⟨h1, h2⟩
    · exact .inl ⟨h1, by show (if r.2.2.1 then r.1 else gdn r.1 p) = _; rw [h1, h2]; rfl⟩
    · refine .inr ⟨h1, ?_⟩
      have hb1 := hb.1
      show QFit (if r.2.2.1 then r.1 else gdn r.1 p)
      rw [h1] at hb1 ⊢
      exact QFit.of_small (gdn_fr p) hb1
  · rcases hh with ⟨h1, h2⟩ | ⟨h1, h2⟩
    · exact .inl ⟨h1, by show (if r.2.2.2.1 then r.2.1 else gup r.2.1 p) = _; rw [h1, h2]; rfl⟩
    · refine .inr ⟨h1, ?_⟩
      have hb1 := hb.2
      show QFit (if r.2.2.2.1 then r.2.1 else gup r.2.1 p)
      rw [h1] at hb1 ⊢
      exact QFit.of_small (gup_fr p) hb1
  · intro hx hy
    show fcmp (if r.2.2.1 then r.1 else gdn r.1 p) (if r.2.2.2.1 then r.2.1 else gup r.2.1 p) ≤ 0
    have hx' : r.2.2.1 = false := hx
    have hy' : r.2.2.2.1 = false := hy
    rw [hx', hy']
    rcases hl with ⟨h1, _⟩ | ⟨_, h1⟩
    · rw [hx'] at h1; exact absurd h1 (by decide)
    · rcases hh with ⟨h2, _⟩ | ⟨_, h2⟩
      · rw [hy'] at h2; exact absurd h2 (by decide)
      · exact grid_le p h1 h2 (hc hx' hy')
end Go.Proofs.YtpdpabpdejmdbaaGreatDoor

namespace Go.Proofs.YtpdpabpdejmdbaaGreatDoor
open Go.RowKit Dg

theorem gup_100a {t : Bool × Nat × Nat} {p A : Nat} (hn : t.2.1 < W32 ^ A) (hA : A ≤ 1000) (hp : p ≤ 128) : (gup t p).2.1 < W32 ^ 100000 ∧ (gup t p).2.2 < W32 ^ 100000 := gdn_100a (t := fneg t) hn hA hp
theorem b16_100k {x : Nat} (h : x < W32 ^ 100000) : x < B16 ^ 1000000000 := lt_W_B' h (by omega)
theorem jround_bd {r : (Bool × Nat × Nat) × (Bool × Nat × Nat) × Bool × Bool × Bool} (h : JGood r) {p : Nat} (hp : p ≤ 128) : JBd (jround r p) := by
  rcases h with rfl | ⟨he, hl, hh, _⟩
  · exact ⟨⟨b16_0, b16_0⟩, b16_0, b16_0⟩
  · unfold jround
    rw [he]
    refine ⟨?_, ?_⟩
    · rcases hl with ⟨h1, h2⟩ | ⟨h1, h2⟩
      · show (if r.2.2.1 then r.1 else gdn r.1 p).2.1 < _ ∧ (if r.2.2.1 then r.1 else gdn r.1 p).2.2 < _
        rw [h1, h2]; exact ⟨b16_0, b16_0⟩
      · show (if r.2.2.1 then r.1 else gdn r.1 p).2.1 < _ ∧ (if r.2.2.1 then r.1 else gdn r.1 p).2.2 < _
        rw [h1]
        have := gdn_100a (A := 64) h2.2.1 (by omega) hp
        exact ⟨b16_100k this.1, b16_100k this.2⟩
    · rcases hh with ⟨h1, h2⟩ | ⟨h1, h2⟩
      · show (if r.2.2.2.1 then r.2.1 else gup r.2.1 p).2.1 < _ ∧ (if r.2.2.2.1 then r.2.1 else gup r.2.1 p).2.2 < _
        rw [h1, h2]; exact ⟨b16_0, b16_0⟩
      · show (if r.2.2.2.1 then r.2.1 else gup r.2.1 p).2.1 < _ ∧ (if r.2.2.2.1 then r.2.1 else gup r.2.1 p).2.2 < _
        rw [h1]
        have := gup_100a (A := 64) h2.2.1 (by omega) hp
        exact ⟨b16_100k this.1, b16_100k this.2⟩
theorem big_zero : big 0 0 = false := by decide +kernel
theorem jbig_none (p : Nat) : jbig (jround jnone p) = false := by
  show (big 0 0 || big 0 0) = false
  rw [big_zero]
  rfl
/-- Rounding of both sides, of a set that is not empty. -/
theorem rnd_ends {A B : Bool × Nat × Nat} {x y : Bool} {p : Nat} : 
    jbig (jround (if x then (false, 0, 0) else A, if y then (false, 0, 0) else B, x, y, false) p) = sbig (sround (if x then (-1, false, 0, 0) else (0, A), if y then (1, false, 0, 0) else (0, B), false) p) ∧
    japi (jround (if x then (false, 0, 0) else A, if y then (false, 0, 0) else B, x, y, false) p) = giv (sround (if x then (-1, false, 0, 0) else (0, A), if y then (1, false, 0, 0) else (0, B), false) p) := by
  have ed : Go.Proofs.YtpdpabpdejmdbaaGreatDoor.jrat (gdn A p) = outF (gdn A p) := rat_out (gdn_fr (t := A) p).pos (gdn_fr (t := A) p).zs
  have eu : Go.Proofs.YtpdpabpdejmdbaaGreatDoor.jrat (gup B p) = outF (gup B p) := rat_out (gup_fr (t := B) p).pos (gup_fr (t := B) p).zs
  cases x <;> cases y
  · refine ⟨?_, ?_⟩
    · show (big (gdn A p).2.1 (gdn A p).2.2 || big (gup B p).2.1 (gup B p).2.2) = (decide ((0 : Int) = 0) && big (gdn A p).2.1 (gdn A p).2.2 || decide ((0 : Int) = 0) && big (gup B p).2.1 (gup B p).2.2)
      simp
    · show (jrat (gdn A p), jrat (gup B p), false, false) = (outF (gdn A p), outF (gup B p), false, false)
      rw [ed, eu]
  · refine ⟨?_, ?_⟩
    · show (big (gdn A p).2.1 (gdn A p).2.2 || big 0 0) = (decide ((0 : Int) = 0) && big (gdn A p).2.1 (gdn A p).2.2 || decide ((1 : Int) = 0) && big 0 0)
      rw [big_zero]
      simp
    · show (jrat (gdn A p), jrat (false, 0, 0), false, true) = (outF (gdn A p), (false, 0, 0), false, true)
      rw [ed, jrat_zero]
  · refine ⟨?_, ?_⟩
    · show (big 0 0 || big (gup B p).2.1 (gup B p).2.2) = (decide ((-1 : Int) = 0) && big 0 0 || decide ((0 : Int) = 0) && big (gup B p).2.1 (gup B p).2.2)
      rw [big_zero]
      simp
    · show (jrat (false, 0, 0), jrat (gup B p), true, false) = ((false, 0, 0), outF (gup B p), true, false)
      rw [eu, jrat_zero]
  · refine ⟨?_, ?_⟩
    · show (big 0 0 || big 0 0) = (decide ((-1 : Int) = 0) && big 0 0 || decide ((1 : Int) = 0) && big 0 0)
      rw [big_zero]
      simp
    · show (jrat (false, 0, 0), jrat (false, 0, 0), true, true) = ((false, 0, 0), (false, 0, 0), true, true)
      rw [jrat_zero]
theorem rnd_same {a b : Bool × Nat × Nat} {x y : Bool} (p : Nat) (he : (srd (a, b, x, y)).2.2 = false) :
    jbig (jround (jof (a, b, x, y)) p) = sbig (sround (srd (a, b, x, y)) p) ∧ japi (jround (jof (a, b, x, y)) p) = giv (sround (srd (a, b, x, y)) p) := by
  rw [jof_in he]
  exact rnd_ends
theorem jRound_any (s1 : Bool) (p1 : Option Addr) (k1 c1 : Nat) (q1 : Option Addr) (l1 d1 : Nat) (sz1 : Bool) (pz1 : Option Addr) (kz1 cz1 : Nat) (qz1 : Option Addr) (lz1 dz1 : Nat) (x1 : Bool) (y1 : Bool) (a b : Bool × Nat × Nat) (p : Int) (w : World) (ha : NRep w (.agg #[.bool s1, .slice p1 k1 c1, .slice q1 l1 d1]) a) (hb : NRep w (.agg #[.bool sz1, .slice pz1 kz1 cz1, .slice qz1 lz1 dz1]) b) :
    Calls Tryz.prog 52 #[.agg #[.bool s1, .slice p1 k1 c1, .slice q1 l1 d1, .bool sz1, .slice pz1 kz1 cz1, .slice qz1 lz1 dz1, .bool x1, .bool y1], .int .i64 p] w fun e w' => ∃ s5 p5 k5 c5 q5 l5 d5 sz5 pz5 kz5 cz5 qz5 lz5 dz5 x5 y5, e = .returned (.tuple #[.agg #[.bool s5, .slice p5 k5 c5, .slice q5 l5 d5, .bool sz5, .slice pz5 kz5 cz5, .slice qz5 lz5 dz5, .bool x5, .bool y5], .int .i64 (ocode (prec p) (srnd p) (a, b, x1, y1))]) ∧ Hid (GRep w' (.agg #[.bool s5, .slice p5 k5 c5, .slice q5 l5 d5, .bool sz5, .slice pz5 kz5 cz5, .slice qz5 lz5 dz5, .bool x5, .bool y5]) (oval (prec p) (srnd p) (a, b, x1, y1))) ∧ Below w.heap.size w w' := by
  unfold ocode oval
  cases hL : (large a.2.1 a.2.2 || large b.2.1 b.2.2)
  · have hla : ilarge (a, b, x1, y1) = false := hL
    rw [Bool.or_eq_false_iff] at hL
    rw [hla]
    cases hv : prec p
    · exact jRound_err s1 p1 k1 c1 q1 l1 d1 sz1 pz1 kz1 cz1 qz1 lz1 dz1 x1 y1 p 2 w (.inr rfl) fun W hW => jOne_arg s1 p1 k1 c1 q1 l1 d1 sz1 pz1 kz1 cz1 qz1 lz1 dz1 x1 y1 a b p W (ha.below hW) (hb.below hW) hL.1 hL.2 hv
    · unfold prec at hv
      rw [Bool.and_eq_true, decide_eq_true_eq, decide_eq_true_eq] at hv
      obtain ⟨pr, rfl⟩ := Int.eq_ofNat_of_zero_le hv.1
      have hp : pr ≤ 128 := by omega
      refine (jRound_ok s1 p1 k1 c1 q1 l1 d1 sz1 pz1 kz1 cz1 qz1 lz1 dz1 x1 y1 a b pr w ha hb hL.1 hL.2 hp (jround_bd (JGood.of hL.1 hL.2) hp)).mono ?_
      rintro e w' ⟨s5, p5, k5, c5, q5, l5, d5, sz5, pz5, kz5, cz5, qz5, lz5, dz5, x5, y5, rfl, hG, hB⟩
      cases he : (srd (a, b, x1, y1)).2.2
      · have hs := rnd_same (x := x1) (y := y1) pr he
        rw [hs.1, hs.2] at hG
        rw [hs.1]
        exact ⟨s5, p5, k5, c5, q5, l5, d5, sz5, pz5, kz5, cz5, qz5, lz5, dz5, x5, y5, rfl, hG, hB⟩
      · have hj := jof_out he
        rw [hj, jbig_none] at hG
        rw [hj, jbig_none]
        refine ⟨s5, p5, k5, c5, q5, l5, d5, sz5, pz5, kz5, cz5, qz5, lz5, dz5, x5, y5, rfl, ?_, hB⟩
        rw [giv_srd hL.1 hL.2, hj]
        exact hG
  · have hla : ilarge (a, b, x1, y1) = true := hL
    rw [hla]
    exact jRound_err s1 p1 k1 c1 q1 l1 d1 sz1 pz1 kz1 cz1 qz1 lz1 dz1 x1 y1 p 1 w (.inl rfl) fun W hW => jOne_large s1 p1 k1 c1 q1 l1 d1 sz1 pz1 kz1 cz1 qz1 lz1 dz1 x1 y1 a b p W (ha.below hW) (hb.below hW) hla
/-- What an operation returns without an error is a result. -/
theorem rnd_ok (a b : Bool × Nat × Nat) (x y : Bool) (p : Int) (h : ocode (prec p) (srnd p) (a, b, x, y) = 0) : ∃ r, JGood r ∧ oval (prec p) (srnd p) (a, b, x, y) = japi r := by
  unfold ocode at h
  unfold oval
  cases hL : (large a.2.1 a.2.2 || large b.2.1 b.2.2)
  · have hla : ilarge (a, b, x, y) = false := hL
    rw [Bool.or_eq_false_iff] at hL
    rw [hla] at h ⊢
    cases hv : prec p
    · rw [hv] at h; simp at h
    · rw [hv] at h
      cases he : (srd (a, b, x, y)).2.2
      · rw [he] at h
        cases hb : sbig (srnd p (srd (a, b, x, y)))
        · have hs := rnd_same (x := x) (y := y) p.toNat he
          have hb' : jbig (jround (jof (a, b, x, y)) p.toNat) = false := hs.1.trans hb
          refine ⟨_, ((JGood.of (x := x) (y := y) hL.1 hL.2).fr (by rw [jof_in he])).round p.toNat hb', ?_⟩
          exact hs.2.symm
        · rw [hb] at h; exact absurd h (by decide)
      · exact ⟨_, JGood.of (x := x) (y := y) hL.1 hL.2, giv_srd hL.1 hL.2⟩
  · have hla : ilarge (a, b, x, y) = true := hL
    rw [hla] at h
    simp at h
theorem oval_err (v : Bool) (f : (Int × Bool × Nat × Nat) × (Int × Bool × Nat × Nat) × Bool → (Int × Bool × Nat × Nat) × (Int × Bool × Nat × Nat) × Bool) (a b : Bool × Nat × Nat) (x y : Bool) (h : ocode v f (a, b, x, y) ≠ 0) : oval v f (a, b, x, y) = gzero := by
  unfold ocode at h
  unfold oval
  split
  · rfl
  case isFalse h1 =>
    rw [if_neg h1] at h
    split
    case isTrue h2 =>
      rw [if_pos h2] at h
      split
      case isTrue h3 => rw [if_pos h3] at h; exact absurd rfl h
      case isFalse h3 =>
        rw [if_neg h3] at h
        split
        · rfl
        case isFalse h4 => rw [if_neg h4] at h; exact absurd rfl h
    · rfl
end Go.Proofs.YtpdpabpdejmdbaaGreatDoor
