/- What triples denote: rational numbers as pairs of integers. The operations on numbers in one form: an error code and a value, whatever the arguments are. Numbers of the program: Sign, Compare. -/
import Derived.Test.YtimjoejkjgklaaaGreatDoorNumX
import Derived.Test.YtimjoejkjgklaaaGreatDoorRefX
namespace Go.Proofs.YtimjoejkjgklaaaGreatDoor
open Go.RowKit Dg
/-- The value a (its denominator 0 stands for 1) is p / q. -/
def IsQ (a : Bool × Nat × Nat) (p q : Int) : Prop := q ≠ 0 ∧ sv a.1 a.2.1 * q = p * (den1 a.2.2 : Int)
theorem sv_mul (s : Bool) (n m : Nat) : sv s (n * m) = sv s n * m := by
  unfold sv; cases s <;> simp [Int.neg_mul]
/-- Two values of one number are the same. -/
theorem IsQ.same {a b : Bool × Nat × Nat} {p q p' q' : Int} (h : IsQ a p q) (h' : IsQ b p' q') (e : p * q' = p' * q) : SameQ a.1 a.2.1 a.2.2 b.1 b.2.1 b.2.2 := by
  have ha := den1_pos a.2.2
  have hb := den1_pos b.2.2
  have h1 := h.2
  have h2 := h'.2
  have key : sv a.1 a.2.1 * (den1 b.2.2 : Int) = sv b.1 b.2.1 * (den1 a.2.2 : Int) := by
    have h3 : (q * q') * (sv a.1 a.2.1 * (den1 b.2.2 : Int)) = (q * q') * (sv b.1 b.2.1 * (den1 a.2.2 : Int)) := by
      calc (q * q') * (sv a.1 a.2.1 * (den1 b.2.2 : Int)) = (sv a.1 a.2.1 * q) * q' * (den1 b.2.2 : Int) := by grind
        _ = (p * (den1 a.2.2 : Int)) * q' * (den1 b.2.2 : Int) := by rw [h1]
        _ = (p * q') * (den1 a.2.2 : Int) * (den1 b.2.2 : Int) := by grind
        _ = (p' * q) * (den1 a.2.2 : Int) * (den1 b.2.2 : Int) := by rw [e]
        _ = (p' * (den1 b.2.2 : Int)) * q * (den1 a.2.2 : Int) := by grind
        _ = (sv b.1 b.2.1 * q') * q * (den1 a.2.2 : Int) := by rw [h2]
        _ = (q * q') * (sv b.1 b.2.1 * (den1 a.2.2 : Int)) := by grind
    exact Int.eq_of_mul_eq_mul_left (Int.mul_ne_zero h.1 h'.1) h3
  rw [← sv_mul, ← sv_mul] at key
  unfold SameQ
  have z1 : a.2.1 * den1 b.2.2 = 0 ↔ a.2.1 = 0 := by rw [Nat.mul_eq_zero]; omega
  have z2 : b.2.1 * den1 a.2.2 = 0 ↔ b.2.1 = 0 := by rw [Nat.mul_eq_zero]; omega
  generalize a.2.1 * den1 b.2.2 = X at *
  generalize b.2.1 * den1 a.2.2 = Y at *
  unfold sv at key
  by_cases c1 : a.2.1 = 0
  · have x0 := z1.2 c1
    subst x0
    have : Y = 0 := by cases a.1 <;> cases b.1 <;> simp at key <;> omega
    exact .inl ⟨c1, z2.1 this⟩
  · have x0 : X ≠ 0 := fun h => c1 (z1.1 h)
    have y0 : Y ≠ 0 := by intro h; subst h; cases a.1 <;> cases b.1 <;> simp at key <;> omega
    refine .inr ⟨c1, fun h => y0 (z2.2 h), ?_⟩
    cases ha1 : a.1 <;> cases hb1 : b.1 <;> simp [ha1, hb1] at key ⊢ <;> omega
end Go.Proofs.YtimjoejkjgklaaaGreatDoor
namespace Go.Proofs.YtimjoejkjgklaaaGreatDoor
open Go.RowKit Dg
/-- A value in memory: its sign, numerator and denominator. -/
def NRep (w : World) (v : Value) (a : Bool × Nat × Nat) : Prop := ARep w v a.1 a.2.1 a.2.2
theorem NRep.below {w w' : World} {v : Value} {a : Bool × Nat × Nat} (h : NRep w v a) (hb : Below w.heap.size w w') : NRep w' v a := ARep.below h hb
/-- The fraction of a value. -/
def fr (a : Bool × Nat × Nat) : Bool × Nat × Nat := frac a.1 a.2.1 (den1 a.2.2)
/-- Few words. -/
def Few (a : Bool × Nat × Nat) : Prop := a.2.1 < W32 ^ 256 ∧ a.2.2 < W32 ^ 256
theorem few_large {a : Bool × Nat × Nat} (h : large a.2.1 a.2.2 = false) : Few a := by
  unfold large at h
  rw [Bool.or_eq_false_iff] at h
  have := of_decide_eq_false h.1
  exact ⟨by omega, by omega⟩
end Go.Proofs.YtimjoejkjgklaaaGreatDoor
namespace Go.Proofs.YtimjoejkjgklaaaGreatDoor
open Go.RowKit Dg
/-- What Sign and Compare give: the answer and the error. -/
def sgc (a : Bool × Nat × Nat) : Int := if large a.2.1 a.2.2 then 1 else 0
def sgt (a : Bool × Nat × Nat) : Int := if large a.2.1 a.2.2 then 0 else sgn (fr a).1 (fr a).2.1
theorem Of_large (v : Value) (a : Bool × Nat × Nat) (w : World) (h : NRep w v a) (ht : TabOk w) (hL : large a.2.1 a.2.2 = true) :
    Calls Tryz.prog 86 #[v] w fun e w' => e = .returned (.tuple #[.agg #[.bool false, .slice none 0 0, .slice none 0 0], .int .i64 1]) ∧ Below w.heap.size w w' := by
  refine (FracOf_open v _ _ _ w h ht).mono ?_
  rintro e w' ⟨hB, hR⟩
  rw [hL, if_pos rfl] at hR
  rcases hR with ⟨_, he⟩ | ⟨h0, _⟩
  · exact ⟨he, hB⟩
  · exact absurd h0 (by decide)
theorem Of_small (v : Value) (a : Bool × Nat × Nat) (w : World) (h : NRep w v a) (ht : TabOk w) (hL : large a.2.1 a.2.2 = false) :
    Calls Tryz.prog 86 #[v] w fun e w' => Below w.heap.size w w' ∧ ∃ sg pa ka ca pb kb cb, e = .returned (.tuple #[.agg #[.bool sg, .slice pa ka ca, .slice pb kb cb], .int .i64 0]) ∧ Hid (FNorm w' (.agg #[.bool sg, .slice pa ka ca, .slice pb kb cb]) (fr a)) := by
  refine (FracOf_open v _ _ _ w h ht).mono ?_
  rintro e w' ⟨hB, hR⟩
  rw [hL, if_neg (by decide)] at hR
  rcases hR with ⟨h0, _⟩ | ⟨_, h⟩
  · exact absurd rfl h0
  · exact ⟨hB, h⟩
theorem nSign_ret {W : World} {x y : Value} {tm : Array Value} {R : Ending → World → Prop} (h2 : tm[2]?.getD undef = x) (h3 : tm[3]?.getD undef = y) (hR : R (.returned (.tuple #[x, y])) W) :
    bodyPost Tryz.prog Tryz.f40 R .ret { tmps := tm, defers := [] } W :=
  bodyPost_ret (v := .tuple #[x, y]) (by simp [results, Tryz.results40, go_sem, h2, h3]) rfl hR
set_option maxHeartbeats 2000000 in
set_option maxRecDepth 100000 in
theorem nSign_any (v : Value) (a : Bool × Nat × Nat) (w : World) (h : NRep w v a) (ht : TabOk w) :
    Calls Tryz.prog 40 #[v] w fun e w' => e = .returned (.tuple #[.int .i64 (sgt a), .int .i64 (sgc a)]) ∧ Below w.heap.size w w' := by
  have HA := hid h
  have HT := hid ht
  clear ht
  obtain ⟨vn, vd, rfl, ⟨p1, k1, c1, rfl, _⟩, ⟨p2, k2, c2, rfl, _⟩⟩ := h
  obtain ⟨s1, hs1⟩ : ∃ s1, s1 = a.1 := ⟨_, rfl⟩
  rw [← hs1] at HA ⊢
  clear hs1
  have hal := (Below.refl w.heap.size w).alloc (Nat.le_refl _) (.cells #[.bool s1, .slice p1 k1 c1, .slice p2 k2 c2] 24)
  have hV := Var3.alloc w (x := .bool s1) (y := .slice p1 k1 c1) (z := .slice p2 k2 c2) 24 trivial trivial trivial
  cases hL : large a.2.1 a.2.2
  · have hO := hid (Of_small _ a _ (HA.out.below hal) (HT.out.below hal) hL)
    rw [show sgc a = 0 by unfold sgc; rw [hL]; rfl, show sgt a = sgn (fr a).1 (fr a).2.1 by unfold sgt; rw [hL]; rfl]
    have HS := hid (fun W v' (hF : FNorm W v' (fr a)) => Sign_any v' _ _ _ W hF)
    obtain ⟨g, hg⟩ : ∃ g, g = sgn (fr a).1 (fr a).2.1 := ⟨_, rfl⟩
    rw [← hg] at HS ⊢
    clear hg hL
    go_enter Tryz.func40, Tryz.ntmps40
    go_upto_region 1 with fail
    generalize w.alloc (.cells #[.bool s1, .slice p1 k1 c1, .slice p2 k2 c2] 24) = W0 at *
    obtain ⟨a0, a1, a2, _⟩ := hV.cells
    go_wp2_with fail
    refine hO.out.mono ?_
    rintro e w1 ⟨hB1, sg, pa, ka, ca, pb, kb, cb, rfl, hF⟩
    clear hO hV a0 a1 a2
    have hal1 := (Below.refl w1.heap.size w1).alloc (Nat.le_refl _) (.cells #[.bool sg, .slice pa ka ca, .slice pb kb cb] 57)
    have hV1 := Var3.alloc w1 (x := .bool sg) (y := .slice pa ka ca) (z := .slice pb kb cb) 57 trivial trivial trivial
    have hF1 := hid (HS.out _ _ (hF.out.below hal1))
    go_upto_region 2 with fail
    have HB := hid (hal.trans ((held_any hB1 hal1).mono hal.size))
    clear hB1 hal1 hF HS
    generalize w1.alloc (.cells #[.bool sg, .slice pa ka ca, .slice pb kb cb] 57) = W2 at *
    generalize w1.heap.size = X at *
    obtain ⟨a0, a1, a2, _⟩ := hV1.cells
    clear hV1 hal
    go_wp2_with fail
    refine hF1.out.mono ?_
    rintro e w3 ⟨rfl, hB3⟩
    clear a0 a1 a2 hF1
    go_wp2_with fail
    exact nSign_ret rfl rfl ⟨rfl, HB.out.trans (hB3.mono HB.out.size)⟩
  · have hO := hid (Of_large _ a _ (HA.out.below hal) (HT.out.below hal) hL)
    rw [show sgc a = 1 by unfold sgc; rw [hL]; rfl, show sgt a = 0 by unfold sgt; rw [hL]; rfl]
    clear hL
    go_enter Tryz.func40, Tryz.ntmps40
    go_upto_region 1 with fail
    generalize w.alloc (.cells #[.bool s1, .slice p1 k1 c1, .slice p2 k2 c2] 24) = W0 at *
    obtain ⟨a0, a1, a2, _⟩ := hV.cells
    go_wp2_with fail
    refine hO.out.mono ?_
    rintro e w1 ⟨rfl, hB1⟩
    have HB := hid (hal.trans (hB1.mono hal.size))
    clear hO hV a0 a1 a2 hB1 hal
    go_wp2_with fail
    exact nSign_ret rfl rfl ⟨rfl, HB.out.alloc HB.out.size _⟩
end Go.Proofs.YtimjoejkjgklaaaGreatDoor
