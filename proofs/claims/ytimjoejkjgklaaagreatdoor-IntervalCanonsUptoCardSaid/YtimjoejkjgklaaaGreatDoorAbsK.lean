/- Abs of both sides. -/
import Derived.Test.YtimjoejkjgklaaaGreatDoorIsJ
import Derived.Test.YtimjoejkjgklaaaGreatDoorMkI
import Derived.Test.YtimjoejkjgklaaaGreatDoorRoadC
import Derived.WalkSmall
import Derived.Test.YtimjoejkjgklaaaGreatDoorSgnJ
import Derived.Test.YtimjoejkjgklaaaGreatDoorAbsI
namespace Go.Proofs.YtimjoejkjgklaaaGreatDoor
open Go.RowKit Dg
theorem isFr_zero : IsFr (false, 0, 1) := ⟨false, 0, 1, Nat.one_pos, by decide⟩
theorem EOk.zero {A : Nat} (hA : 0 < A) : EOk A (0, false, 0, 1) := ⟨fun _ => isFr_zero, fun h => absurd rfl h, Nat.pow_pos W32_pos, Nat.one_lt_pow (by omega) (by decide)⟩
set_option maxHeartbeats 4000000 in
set_option maxRecDepth 100000 in
theorem jSignOf_none (s1 : Bool) (p1 : Option Addr) (k1 c1 : Nat) (q1 : Option Addr) (l1 d1 : Nat) (sz1 : Bool) (pz1 : Option Addr) (kz1 cz1 : Nat) (qz1 : Option Addr) (lz1 dz1 : Nat) (x1 y1 : Bool) (w : World) :
    Calls Tryz.prog 53 #[.agg #[.bool s1, .slice p1 k1 c1, .slice q1 l1 d1, .bool sz1, .slice pz1 kz1 cz1, .slice qz1 lz1 dz1, .bool x1, .bool y1, .bool true]] w fun e w' => e = .returned (.int .i64 (jsg jnone)) ∧ Below w.heap.size w w' := by
  rw [show jsg jnone = 4 from by decide]
  go_enter Tryz.func53, Tryz.ntmps53
  go_wp2_with fail
  go_ret
  exact ⟨rfl, (Below.refl _ _).alloc (Nat.le_refl _) _⟩
theorem jSignOf_any (s1 : Bool) (p1 : Option Addr) (k1 c1 : Nat) (q1 : Option Addr) (l1 d1 : Nat) (sz1 : Bool) (pz1 : Option Addr) (kz1 cz1 : Nat) (qz1 : Option Addr) (lz1 dz1 : Nat) (x1 : Bool) (y1 : Bool) (e1 : Bool) (r : (Bool × Nat × Nat) × (Bool × Nat × Nat) × Bool × Bool × Bool) (w : World) (h : JRep w (.agg #[.bool s1, .slice p1 k1 c1, .slice q1 l1 d1, .bool sz1, .slice pz1 kz1 cz1, .slice qz1 lz1 dz1, .bool x1, .bool y1, .bool e1]) r) (hG : JGood r) :
    Calls Tryz.prog 53 #[.agg #[.bool s1, .slice p1 k1 c1, .slice q1 l1 d1, .bool sz1, .slice pz1 kz1 cz1, .slice qz1 lz1 dz1, .bool x1, .bool y1, .bool e1]] w fun e w' => e = .returned (.int .i64 (jsg r)) ∧ Below w.heap.size w w' := by
  obtain ⟨h1, h2, hi, hj, he⟩ := JRep.parts s1 p1 k1 c1 q1 l1 d1 sz1 pz1 kz1 cz1 qz1 lz1 dz1 x1 y1 e1 h
  rcases hG with rfl | ⟨hn, hl, hh, _⟩
  · rw [show e1 = true from he]
    exact jSignOf_none _ _ _ _ _ _ _ _ _ _ _ _ _ _ _ _ w
  · rw [hn] at he
    subst he
    unfold jsg
    rw [hn]
    have z1 : r.1.2.1 = 0 → r.1.1 = false := by
      rcases hl with ⟨_, hl⟩ | ⟨_, hl⟩
      · rw [hl]; intro _; rfl
      · exact hl.1.zs
    have z2 : r.2.1.2.1 = 0 → r.2.1.1 = false := by
      rcases hh with ⟨_, hl⟩ | ⟨_, hl⟩
      · rw [hl]; intro _; rfl
      · exact hl.1.zs
    refine jSignOf_some (sgn r.1.1 r.1.2.1) (sgn r.2.1.1 r.2.1.2.1) _ s1 p1 k1 c1 q1 l1 d1 sz1 pz1 kz1 cz1 qz1 lz1 dz1 x1 y1 w (by rw [hi, hj]; rfl) (fun W hW => Sgn_any (.agg #[.bool s1, .slice p1 k1 c1, .slice q1 l1 d1]) r.1 W (h1.below hW) z1) (fun W hW => Sgn_any (.agg #[.bool sz1, .slice pz1 kz1 cz1, .slice qz1 lz1 dz1]) r.2.1 W (h2.below hW) z2)
theorem QFit.zero : QFit (false, 0, 1) := ⟨isFr_zero, Nat.pow_pos W32_pos, Nat.one_lt_pow (by omega) (by decide)⟩
end Go.Proofs.YtimjoejkjgklaaaGreatDoor
