/- IsEmpty, Bounded, Sign of the program. -/
import Derived.Test.YtheojajaefjecaaGreatDoorHasQ
import Derived.Test.YtheojajaefjecaaGreatDoorIsJ
import Derived.Test.YtheojajaefjecaaGreatDoorMkI
import Derived.Test.YtheojajaefjecaaGreatDoorRoadC
import Derived.WalkSmall
namespace Go.Proofs.YtheojajaefjecaaGreatDoor
open Go.RowKit Dg
def sbd (x : (Int × Bool × Nat × Nat) × (Int × Bool × Nat × Nat) × Bool) : Bool := !(x.1.1 != 0) && !(x.2.1.1 != 0)
set_option maxHeartbeats 1000000 in
set_option maxRecDepth 100000 in
theorem sbd_any (i1 : Int) (s1 : Bool) (p1 : Option Addr) (k1 c1 : Nat) (q1 : Option Addr) (l1 d1 : Nat) (j1 : Int) (sz1 : Bool) (pz1 : Option Addr) (kz1 cz1 : Nat) (qz1 : Option Addr) (lz1 dz1 : Nat) (e1 : Bool) (x : (Int × Bool × Nat × Nat) × (Int × Bool × Nat × Nat) × Bool) (w : World) (h : SRep w (.agg #[.int .i64 i1, .bool s1, .slice p1 k1 c1, .slice q1 l1 d1, .int .i64 j1, .bool sz1, .slice pz1 kz1 cz1, .slice qz1 lz1 dz1, .bool e1]) x) :
  Calls Tryz.prog 81 #[.agg #[.int .i64 i1, .bool s1, .slice p1 k1 c1, .slice q1 l1 d1, .int .i64 j1, .bool sz1, .slice pz1 kz1 cz1, .slice qz1 lz1 dz1, .bool e1]] w fun e w' => e = .returned (.bool (sbd x)) ∧ Below w.heap.size w w' := by
 have hi := (h.ends.1.frac).1
 have hj := (h.ends.2.1.frac).1
 unfold sbd
 rw [← hi, ← hj]
 clear h hi hj
 have HL := hid (fun (W : World) => infinite_any i1 s1 p1 k1 c1 q1 l1 d1 W)
 have HH := hid (fun (W : World) => infinite_any j1 sz1 pz1 kz1 cz1 qz1 lz1 dz1 W)
 obtain ⟨u, hu⟩ : ∃ u, u = (i1 != 0) := ⟨_, rfl⟩
 obtain ⟨v, hv⟩ : ∃ u, u = (j1 != 0) := ⟨_, rfl⟩
 rw [← hu] at HL ⊢
 rw [← hv] at HH ⊢
 clear hu hv
 cases u
 all_goals
  go_enter Tryz.func81, Tryz.ntmps81
  go_wp2_with fail
  have HV := hid (pre1 w [.int .i64 i1, .bool s1, .slice p1 k1 c1, .slice q1 l1 d1, .int .i64 j1, .bool sz1, .slice pz1 kz1 cz1, .slice qz1 lz1 dz1, .bool e1] 59 nd9)
  generalize w.alloc (.cells #[.int .i64 i1, .bool s1, .slice p1 k1 c1, .slice q1 l1 d1, .int .i64 j1, .bool sz1, .slice pz1 kz1 cz1, .slice qz1 lz1 dz1, .bool e1] 59) = W0 at *
  refine (HL.out W0).mono ?_
  rintro e w1 ⟨rfl, hB1⟩
  have HE := hid (And.intro (HV.out.1.below hB1) (HV.out.2.trans (hB1.mono HV.out.2.size)))
  clear hB1
  obtain ⟨m0, m1, m2, m3, m4, m5, m6, m7, m8, _⟩ := HE.out.1.cells9
  go_wp2_with fail
 ·refine (HH.out w1).mono ?_
  rintro e w2 ⟨rfl, hB2⟩
  go_wp2_with fail
  go_ret
  exact ⟨rfl, HE.out.2.trans (hB2.mono HE.out.2.size)⟩
 ·go_ret
  exact ⟨rfl, HE.out.2⟩
end Go.Proofs.YtheojajaefjecaaGreatDoor
