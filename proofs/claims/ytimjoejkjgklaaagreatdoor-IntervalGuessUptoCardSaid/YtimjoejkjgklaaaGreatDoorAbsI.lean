/- The sign of an end; the absolute values of a set, of the program. -/
import Derived.Test.YtimjoejkjgklaaaGreatDoorIsJ
import Derived.Test.YtimjoejkjgklaaaGreatDoorMkI
import Derived.Test.YtimjoejkjgklaaaGreatDoorRoadC
import Derived.WalkSmall
set_option maxHeartbeats 1000000
set_option maxRecDepth 100000
namespace Go.Proofs.YtimjoejkjgklaaaGreatDoor
open Go.RowKit Dg
/-- The sign of an end. -/
def esgn (x : Int × Bool × Nat × Nat) : Int := if x.1 = 0 then sgn x.2.1 x.2.2.1 else x.1
theorem esign_fin (s1 : Bool) (p1 : Option Addr) (k1 c1 : Nat) (q1 : Option Addr) (l1 d1 : Nat) (t : Bool × Nat × Nat) (w : World) (h : FNorm w (.agg #[.bool s1, .slice p1 k1 c1, .slice q1 l1 d1]) t) :
    Calls Tryz.prog 104 #[.agg #[.int .i64 0, .bool s1, .slice p1 k1 c1, .slice q1 l1 d1]] w fun e w' => e = .returned (.int .i64 (sgn t.1 t.2.1)) ∧ Below w.heap.size w w' := by
  have HO := hid (fun (W : World) (hW : Below w.heap.size w W) => Sign_any (.agg #[.bool s1, .slice p1 k1 c1, .slice q1 l1 d1]) t.1 t.2.1 t.2.2 W (FNorm.below h hW))
  clear h
  obtain ⟨r, hr⟩ : ∃ r, r = sgn t.1 t.2.1 := ⟨_, rfl⟩
  rw [← hr] at HO ⊢
  clear hr
  go_enter Tryz.func104, Tryz.ntmps104
  go_wp2_with fail
  have HV := hid (pre1 w [.int .i64 0, .bool s1, .slice p1 k1 c1, .slice q1 l1 d1] 59 nd4)
  generalize w.alloc (.cells #[.int .i64 0, .bool s1, .slice p1 k1 c1, .slice q1 l1 d1] 59) = W0 at *
  refine (infinite_any 0 s1 p1 k1 c1 q1 l1 d1 W0).mono ?_
  rintro e w1 ⟨rfl, hB1⟩
  rw [show ((0 : Int) != 0) = false from rfl]
  have HE := hid (And.intro (HV.out.1.below hB1) (HV.out.2.trans (hB1.mono HV.out.2.size)))
  clear hB1
  obtain ⟨u0, u1, u2, u3, _⟩ := HE.out.1.cells4
  go_wp2_with fail
  refine (HO.out _ HE.out.2).mono ?_
  rintro e w2 ⟨rfl, hB2⟩
  go_wp2_with fail
  go_ret
  exact ⟨rfl, HE.out.2.trans (hB2.mono HE.out.2.size)⟩
theorem esign_inf (i1 : Int) (s1 : Bool) (p1 : Option Addr) (k1 c1 : Nat) (q1 : Option Addr) (l1 d1 : Nat) (w : World) (h : i1 ≠ 0) :
    Calls Tryz.prog 104 #[.agg #[.int .i64 i1, .bool s1, .slice p1 k1 c1, .slice q1 l1 d1]] w fun e w' => e = .returned (.int .i64 i1) ∧ Below w.heap.size w w' := by
  have hne : (i1 != 0) = true := by simpa using h
  have HN := hid hne
  clear h hne
  go_enter Tryz.func104, Tryz.ntmps104
  go_wp2_with fail
  have HV := hid (pre1 w [.int .i64 i1, .bool s1, .slice p1 k1 c1, .slice q1 l1 d1] 59 nd4)
  generalize w.alloc (.cells #[.int .i64 i1, .bool s1, .slice p1 k1 c1, .slice q1 l1 d1] 59) = W0 at *
  refine (infinite_any i1 s1 p1 k1 c1 q1 l1 d1 W0).mono ?_
  rintro e w1 ⟨rfl, hB1⟩
  rw [HN.out]
  have HE := hid (And.intro (HV.out.1.below hB1) (HV.out.2.trans (hB1.mono HV.out.2.size)))
  clear hB1
  obtain ⟨u0, u1, u2, u3, _⟩ := HE.out.1.cells4
  go_wp2_with fail
  go_ret
  exact ⟨rfl, HE.out.2⟩
theorem esign_any (i1 : Int) (s1 : Bool) (p1 : Option Addr) (k1 c1 : Nat) (q1 : Option Addr) (l1 d1 : Nat) (x : Int × Bool × Nat × Nat) (w : World) (h : ERep w (.agg #[.int .i64 i1, .bool s1, .slice p1 k1 c1, .slice q1 l1 d1]) x) :
    Calls Tryz.prog 104 #[.agg #[.int .i64 i1, .bool s1, .slice p1 k1 c1, .slice q1 l1 d1]] w fun e w' => e = .returned (.int .i64 (esgn x)) ∧ Below w.heap.size w w' := by
  obtain ⟨hi, hF⟩ := h.frac
  unfold esgn
  by_cases h0 : x.1 = 0
  · rw [if_pos h0]
    rw [h0] at hi
    subst hi
    exact esign_fin s1 p1 k1 c1 q1 l1 d1 x.2 w hF
  · rw [if_neg h0]
    rw [← hi]
    exact esign_inf i1 s1 p1 k1 c1 q1 l1 d1 w (by rw [hi]; exact h0)
end Go.Proofs.YtimjoejkjgklaaaGreatDoor
