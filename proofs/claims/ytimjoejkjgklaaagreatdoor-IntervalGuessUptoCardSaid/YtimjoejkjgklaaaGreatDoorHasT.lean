/- Whether a number is in an interval: the reference. -/
import Derived.Test.YtimjoejkjgklaaaGreatDoorHasR
namespace Go.Proofs.YtimjoejkjgklaaaGreatDoor
open Go.RowKit Dg
def jzero : (Bool × Nat × Nat) × (Bool × Nat × Nat) × Bool × Bool × Bool := ((false, 0, 0), (false, 0, 0), false, false, false)
theorem JRep.zero (w : World) : JRep w (.agg #[.bool false, .slice none 0 0, .slice none 0 0, .bool false, .slice none 0 0, .slice none 0 0, .bool false, .bool false, .bool false]) jzero :=
  ⟨_, _, _, _, _, _, _, _, _, _, _, _, _, _, _, _, _, rfl, QNorm.zero _, QNorm.zero _, rfl, rfl, rfl⟩
/-- What an end of a set of the reference may be. -/
def QOk (t : Bool × Nat × Nat) : Prop := IsFr t ∧ t.2.1 < B16 ^ 1000 ∧ t.2.2 < B16 ^ 1000
theorem rcmp_ok (v1 v2 : Value) (x y : Bool × Nat × Nat) (w : World) (q1 : QNorm w v1 x) (q2 : QNorm w v2 y) (hx : QOk x) (hy : QOk y) :
    Calls Tryz.prog 85 #[v1, v2] w fun e w' => e = .returned (.int .i64 (fcmp x y)) ∧ Below w.heap.size w w' :=
  rCmp_any v1 v2 x y 1000 w q1 q2 hx.2.1 hx.2.2 hy.2.1 hy.2.2 (by omega) hx.1.pos hy.1.pos
theorem lt_b1000 {x : Nat} (h : x < W32 ^ 64) : x < B16 ^ 1000 := by
  generalize hA : 1000 = A
  exact lt_W_B6 h (by omega)
theorem qok_fr {t : Bool × Nat × Nat} (h : large t.2.1 t.2.2 = false) : QOk (fr t) := ⟨IsFr.fr t, lt_b1000 (fr_bd h).1, lt_b1000 (fr_bd h).2⟩
theorem cmpI_nonpos {a b : Int} : cmpI a b ≤ 0 ↔ a ≤ b := by
  unfold cmpI
  constructor
  · intro h
    by_cases h1 : a < b
    · omega
    · rw [if_neg h1] at h
      by_cases h2 : b < a
      · rw [if_pos h2] at h; omega
      · omega
  · intro h
    by_cases h1 : a < b
    · rw [if_pos h1]; omega
    · rw [if_neg h1, if_neg (by omega)]; omega
theorem fcmp_nonpos {a b : Bool × Nat × Nat} : fcmp a b ≤ 0 ↔ sv a.1 a.2.1 * b.2.2 ≤ sv b.1 b.2.1 * a.2.2 := by
  unfold fcmp
  exact cmpI_nonpos
end Go.Proofs.YtimjoejkjgklaaaGreatDoor
