/- The sign of a set, of the reference. -/
import Derived.Test.YtimjoejkjgklaaaGreatDoorHasT
import Derived.Test.YtimjoejkjgklaaaGreatDoorLawD
namespace Go.Proofs.YtimjoejkjgklaaaGreatDoor
open Go.RowKit Dg
/-- The sign of a set that is not empty, by its infinite ends and the signs of its numbers. -/
def sgo (x y : Bool) (a b : Int) : Int := if !x && decide (0 ≤ a) then (if !y && decide (b ≤ 0) then 0 else if decide (0 < a) then 2 else 1) else if !y && decide (b ≤ 0) then (if decide (b < 0) then -2 else -1) else 3
def jsg (r : (Bool × Nat × Nat) × (Bool × Nat × Nat) × Bool × Bool × Bool) : Int := if r.2.2.2.2 then 4 else sgo r.2.2.1 r.2.2.2.1 (sgn r.1.1 r.1.2.1) (sgn r.2.1.1 r.2.1.2.1)
set_option maxHeartbeats 60000000 in
set_option maxRecDepth 100000 in
theorem jSignOf_some (a b z : Int) (s1 : Bool) (p1 : Option Addr) (k1 c1 : Nat) (q1 : Option Addr) (l1 d1 : Nat) (sz1 : Bool) (pz1 : Option Addr) (kz1 cz1 : Nat) (qz1 : Option Addr) (lz1 dz1 : Nat) (x1 y1 : Bool) (w : World) (hz : sgo x1 y1 a b = z)
    (ha : ∀ W, Below w.heap.size w W → Calls Tryz.prog 105 #[.agg #[.bool s1, .slice p1 k1 c1, .slice q1 l1 d1]] W fun e w' => e = .returned (.int .i64 a) ∧ Below W.heap.size W w')
    (hb : ∀ W, Below w.heap.size w W → Calls Tryz.prog 105 #[.agg #[.bool sz1, .slice pz1 kz1 cz1, .slice qz1 lz1 dz1]] W fun e w' => e = .returned (.int .i64 b) ∧ Below W.heap.size W w') :
    Calls Tryz.prog 53 #[.agg #[.bool s1, .slice p1 k1 c1, .slice q1 l1 d1, .bool sz1, .slice pz1 kz1 cz1, .slice qz1 lz1 dz1, .bool x1, .bool y1, .bool false]] w fun e w' => e = .returned (.int .i64 z) ∧ Below w.heap.size w w' := by
  have HLo := hid ha
  have HHi := hid hb
  clear ha hb
  have H : ∀ (u1 u2 v1 v2 : Bool), decide (0 ≤ a) = u1 → decide (0 < a) = u2 → decide (b ≤ 0) = v1 → decide (b < 0) = v2 →
      (x1 = false ∧ y1 = false ∧ u1 = true ∧ v1 = true) ∨ (x1 = false ∧ y1 = false ∧ u1 = true ∧ v1 = false ∧ u2 = true) ∨ (x1 = false ∧ y1 = false ∧ u1 = true ∧ v1 = false ∧ u2 = false) ∨
      (x1 = false ∧ y1 = false ∧ u1 = false ∧ v1 = true ∧ v2 = true) ∨ (x1 = false ∧ y1 = false ∧ u1 = false ∧ v1 = true ∧ v2 = false) ∨ (x1 = false ∧ y1 = false ∧ u1 = false ∧ v1 = false) ∨
      (x1 = true ∧ y1 = false ∧ v1 = true ∧ v2 = true) ∨ (x1 = true ∧ y1 = false ∧ v1 = true ∧ v2 = false) ∨ (x1 = true ∧ y1 = false ∧ v1 = false) ∨
      (x1 = false ∧ y1 = true ∧ u1 = true ∧ u2 = true) ∨ (x1 = false ∧ y1 = true ∧ u1 = true ∧ u2 = false) ∨ (x1 = false ∧ y1 = true ∧ u1 = false) ∨ (x1 = true ∧ y1 = true) := by
    intro u1 u2 v1 v2 _ _ _ _
    cases x1 <;> cases y1 <;> cases u1 <;> cases v1 <;> cases u2 <;> cases v2 <;> simp
  obtain ⟨u1, f1⟩ : ∃ u, decide (0 ≤ a) = u := ⟨_, rfl⟩
  obtain ⟨u2, f2⟩ : ∃ u, decide (0 < a) = u := ⟨_, rfl⟩
  obtain ⟨v1, f3⟩ : ∃ u, decide (b ≤ 0) = u := ⟨_, rfl⟩
  obtain ⟨v2, f4⟩ : ∃ u, decide (b < 0) = u := ⟨_, rfl⟩
  unfold sgo at hz
  rw [f1, f2, f3, f4] at hz
  rcases H u1 u2 v1 v2 f1 f2 f3 f4 with ⟨rfl, rfl, rfl, rfl⟩ | ⟨rfl, rfl, rfl, rfl, rfl⟩ | ⟨rfl, rfl, rfl, rfl, rfl⟩ | ⟨rfl, rfl, rfl, rfl, rfl⟩ | ⟨rfl, rfl, rfl, rfl, rfl⟩ | ⟨rfl, rfl, rfl, rfl⟩ | ⟨rfl, rfl, rfl, rfl⟩ | ⟨rfl, rfl, rfl, rfl⟩ | ⟨rfl, rfl, rfl⟩ | ⟨rfl, rfl, rfl, rfl⟩ | ⟨rfl, rfl, rfl, rfl⟩ | ⟨rfl, rfl, rfl⟩ | ⟨rfl, rfl⟩
  all_goals
    clear H
    have HZ := hid hz
    clear hz
    go_enter Tryz.func53, Tryz.ntmps53
    go_wp2_with fail
    generalize hA : World.alloc _ _ = W0
    obtain ⟨hB0, hX0, _⟩ := al_step hA nd_J
    clear hA
    have HE := hid (And.intro hX0 hB0)
    clear hB0 hX0
    iterate 3
      try
        first
          | (refine (HLo.out _ HE.out.2).mono ?_)
          | (refine (HHi.out _ HE.out.2).mono ?_)
        rintro e w1 ⟨rfl, hB⟩
        replace HE := hid (And.intro (HE.out.1.below hB) (HE.out.2.trans (hB.mono HE.out.2.size)))
        clear hB
        obtain ⟨m0, m1, m2, m3, m4, m5, m6, m7, m8, _⟩ := HE.out.1.cells9
        go_wp2_with fail
        clear m0 m1 m2 m3 m4 m5 m6 m7 m8
    go_ret
    exact ⟨by (rw [← HZ.out]; rfl), HE.out.2⟩
end Go.Proofs.YtimjoejkjgklaaaGreatDoor
