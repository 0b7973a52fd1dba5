/- Sets of the reference: reading. -/
import Derived.Test.YtimjoejkjgklaaaGreatDoorFin
namespace Go.Proofs.YtimjoejkjgklaaaGreatDoor
open Go.RowKit Dg
/-- The value v is a set of the reference. -/
def JRep (w : World) (v : Value) (r : (Bool × Nat × Nat) × (Bool × Nat × Nat) × Bool × Bool × Bool) : Prop :=
  ∃ s p k c q l d sz pz kz cz qz lz dz x y e, v = .agg #[.bool s, .slice p k c, .slice q l d, .bool sz, .slice pz kz cz, .slice qz lz dz, .bool x, .bool y, .bool e] ∧ QNorm w (.agg #[.bool s, .slice p k c, .slice q l d]) r.1 ∧ QNorm w (.agg #[.bool sz, .slice pz kz cz, .slice qz lz dz]) r.2.1 ∧ x = r.2.2.1 ∧ y = r.2.2.2.1 ∧ e = r.2.2.2.2
theorem JRep.below {w w' : World} {v : Value} {r : (Bool × Nat × Nat) × (Bool × Nat × Nat) × Bool × Bool × Bool} (h : JRep w v r) (hb : Below w.heap.size w w') : JRep w' v r := by
  obtain ⟨s, p, k, c, q, l, d, sz, pz, kz, cz, qz, lz, dz, x, y, e, hv, h1, h2, h3⟩ := h
  exact ⟨s, p, k, c, q, l, d, sz, pz, kz, cz, qz, lz, dz, x, y, e, hv, h1.below hb, h2.below hb, h3⟩
theorem QNorm.stores {l : List Value} {w : World} {B k : Nat} {cs : Array Value} {v : Value} {t : Bool × Nat × Nat} (h : QNorm w v t) (hB : Box w B cs) (hn : NDs l) : QNorm (Go.Proofs.YtimjoejkjgklaaaGreatDoor.stores w B k l) v t := by
  obtain ⟨vn, vd, hv, h1, h2⟩ := h
  exact ⟨vn, vd, hv, Rep.stores h1 hB hn, Rep.stores h2 hB hn⟩
theorem JRep.stores {l : List Value} {w : World} {B k : Nat} {cs : Array Value} {v : Value} {r : (Bool × Nat × Nat) × (Bool × Nat × Nat) × Bool × Bool × Bool} (h : JRep w v r) (hB : Box w B cs) (hn : NDs l) : JRep (Go.Proofs.YtimjoejkjgklaaaGreatDoor.stores w B k l) v r := by
  obtain ⟨s, p, k, c, q, l, d, sz, pz, kz, cz, qz, lz, dz, x, y, e, hv, h1, h2, h3⟩ := h
  exact ⟨s, p, k, c, q, l, d, sz, pz, kz, cz, qz, lz, dz, x, y, e, hv, QNorm.stores h1 hB hn, QNorm.stores h2 hB hn, h3⟩
theorem JRep.parts {w : World} (s : Bool) (p : Option Addr) (k c : Nat) (q : Option Addr) (l d : Nat) (sz : Bool) (pz : Option Addr) (kz cz : Nat) (qz : Option Addr) (lz dz : Nat) (x : Bool) (y : Bool) (e : Bool) {r : (Bool × Nat × Nat) × (Bool × Nat × Nat) × Bool × Bool × Bool} (h : JRep w (.agg #[.bool s, .slice p k c, .slice q l d, .bool sz, .slice pz kz cz, .slice qz lz dz, .bool x, .bool y, .bool e]) r) : QNorm w (.agg #[.bool s, .slice p k c, .slice q l d]) r.1 ∧ QNorm w (.agg #[.bool sz, .slice pz kz cz, .slice qz lz dz]) r.2.1 ∧ x = r.2.2.1 ∧ y = r.2.2.2.1 ∧ e = r.2.2.2.2 := by
  obtain ⟨s2, p2, k2, c2, q2, l2, d2, sz2, pz2, kz2, cz2, qz2, lz2, dz2, x2, y2, e2, hv, h1, h2, h3⟩ := h
  have e := Value.agg.inj hv
  simp at e
  obtain ⟨rfl, ⟨rfl, rfl, rfl⟩, ⟨rfl, rfl, rfl⟩, rfl, ⟨rfl, rfl, rfl⟩, ⟨rfl, rfl, rfl⟩, rfl, rfl, rfl⟩ := e
  exact ⟨h1, h2, h3⟩
theorem QNorm.zero (w : World) : QNorm w (.agg #[.bool false, .slice none 0 0, .slice none 0 0]) (false, 0, 0) := ⟨_, _, rfl, Rep.nil, Rep.nil⟩
/-- The empty set. -/
def jnone : (Bool × Nat × Nat) × (Bool × Nat × Nat) × Bool × Bool × Bool := ((false, 0, 0), (false, 0, 0), false, false, true)
/-- What an interval denotes. -/
def jof (a : (Bool × Nat × Nat) × (Bool × Nat × Nat) × Bool × Bool) : (Bool × Nat × Nat) × (Bool × Nat × Nat) × Bool × Bool × Bool :=
  if !a.2.2.1 && !a.2.2.2 && decide (0 < fcmp (fr a.1) (fr a.2.1)) then jnone
  else (if a.2.2.1 then (false, 0, 0) else fr a.1, if a.2.2.2 then (false, 0, 0) else fr a.2.1, a.2.2.1, a.2.2.2, false)
end Go.Proofs.YtimjoejkjgklaaaGreatDoor
