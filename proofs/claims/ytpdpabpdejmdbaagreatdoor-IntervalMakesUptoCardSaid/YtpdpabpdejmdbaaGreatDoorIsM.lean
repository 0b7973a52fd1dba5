/- Canon of both sides is the same. -/
import Derived.Test.YtpdpabpdejmdbaaGreatDoorIsJ
import Derived.Test.YtpdpabpdejmdbaaGreatDoorMkJ
namespace Go.Proofs.YtpdpabpdejmdbaaGreatDoor
open Go.RowKit Dg

theorem can_eq (a b : Bool × Nat × Nat) (x y : Bool) : jcan (a, b, x, y) = ican (a, b, x, y) := by
  unfold jcan ican
  cases h : ilarge (a, b, x, y)
  · have h' : (large a.2.1 a.2.2 || large b.2.1 b.2.2) = false := h
    rw [Bool.or_eq_false_iff] at h'
    exact (giv_srd h'.1 h'.2).symm
  · rfl
theorem ican_ok (a b : Bool × Nat × Nat) (x y : Bool) (h : icode (a, b, x, y) = 0) : ∃ r, JGood r ∧ ican (a, b, x, y) = japi r := by
  unfold icode at h
  cases hl : ilarge (a, b, x, y)
  · have h' : (large a.2.1 a.2.2 || large b.2.1 b.2.2) = false := hl
    rw [Bool.or_eq_false_iff] at h'
    refine ⟨_, JGood.of (x := x) (y := y) h'.1 h'.2, ?_⟩
    rw [← giv_srd h'.1 h'.2]
    unfold ican
    rw [hl]
    rfl
  · rw [hl] at h
    exact absurd h (by decide)
theorem ican_err (a b : Bool × Nat × Nat) (x y : Bool) (h : icode (a, b, x, y) ≠ 0) : ican (a, b, x, y) = gzero := by
  unfold icode at h
  unfold ican
  cases hl : ilarge (a, b, x, y)
  · rw [hl] at h
    exact absurd rfl h
  · rfl
end Go.Proofs.YtpdpabpdejmdbaaGreatDoor
