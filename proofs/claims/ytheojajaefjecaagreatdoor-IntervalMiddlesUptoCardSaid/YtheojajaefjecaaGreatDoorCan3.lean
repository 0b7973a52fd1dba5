/- Sets of the reference: as an interval of the interface. Sets of the reference: Canonical. -/
import Derived.Test.YtheojajaefjecaaGreatDoorHasT
import Derived.Test.YtheojajaefjecaaGreatDoorEndsB
namespace Go.Proofs.YtheojajaefjecaaGreatDoor
open Go.RowKit Dg
def jrat (t : Bool × Nat × Nat) : Bool × Nat × Nat := (t.1 && decide (t.2.1 ≠ 0), t.2.1, den0' t.2.2)
def japi (r : (Bool × Nat × Nat) × (Bool × Nat × Nat) × Bool × Bool × Bool) : (Bool × Nat × Nat) × (Bool × Nat × Nat) × Bool × Bool :=
 if r.2.2.2.2 then ((false, 1, 0), (false, 0, 0), false, false) else (jrat r.1, jrat r.2.1, r.2.2.1, r.2.2.2.1)
def JBd (r : (Bool × Nat × Nat) × (Bool × Nat × Nat) × Bool × Bool × Bool) : Prop :=
 (r.1.2.1 < B16 ^ 1000000000 ∧ r.1.2.2 < B16 ^ 1000000000) ∧ r.2.1.2.1 < B16 ^ 1000000000 ∧ r.2.1.2.2 < B16 ^ 1000000000
theorem b16_one : 1 < B16 ^ 1000000000 := lt_16 (a := 1) (by rw [Nat.pow_one]; unfold B16; omega) (by omega)
theorem b16_0 : 0 < B16 ^ 1000000000 := Nat.lt_trans Nat.zero_lt_one b16_one
end Go.Proofs.YtheojajaefjecaaGreatDoor
namespace Go.Proofs.YtheojajaefjecaaGreatDoor
open Go.RowKit Dg
theorem GRep.parts {w : World} (s : Bool) (p : Option Addr) (k c : Nat) (q : Option Addr) (l d : Nat) (sz : Bool) (pz : Option Addr) (kz cz : Nat) (qz : Option Addr) (lz dz : Nat) (x : Bool) (y : Bool) {i : (Bool × Nat × Nat) × (Bool × Nat × Nat) × Bool × Bool} (h : GRep w (.agg #[.bool s, .slice p k c, .slice q l d, .bool sz, .slice pz kz cz, .slice qz lz dz, .bool x, .bool y]) i) : FNorm w (.agg #[.bool s, .slice p k c, .slice q l d]) i.1 ∧ FNorm w (.agg #[.bool sz, .slice pz kz cz, .slice qz lz dz]) i.2.1 ∧ x = i.2.2.1 ∧ y = i.2.2.2 := by
 obtain ⟨s2, p2, k2, c2, q2, l2, d2, sz2, pz2, kz2, cz2, qz2, lz2, dz2, x2, y2, hv, h1, h2, h3⟩ := h
 have e := Value.agg.inj hv
 simp at e
 obtain ⟨rfl, ⟨rfl, rfl, rfl⟩, ⟨rfl, rfl, rfl⟩, rfl, ⟨rfl, rfl, rfl⟩, ⟨rfl, rfl, rfl⟩, rfl, rfl⟩ := e
 exact ⟨h1, h2, h3⟩
end Go.Proofs.YtheojajaefjecaaGreatDoor
