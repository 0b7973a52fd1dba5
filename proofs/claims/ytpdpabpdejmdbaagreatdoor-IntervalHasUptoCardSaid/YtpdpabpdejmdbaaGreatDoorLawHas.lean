/- The law IntervalHas. -/
import Derived.Test.YtpdpabpdejmdbaaGreatDoorHasU
import Derived.Test.YtpdpabpdejmdbaaGreatDoorAwake
namespace Go.Proofs.YtpdpabpdejmdbaaGreatDoor
open Go.RowKit Dg

theorem yes_same (b : Bool) (c : Int) (w : World) : Calls Tryz.prog 17 #[.bool b, .int .i64 c, .bool b, .int .i64 c] w fun e w' => e = .returned (.bool true) ∧ w = w' := by
  have hb : (b == b) = true := by cases b <;> rfl
  go_enter Tryz.func17, Tryz.ntmps17
  go_wp2_with fail
  go_ret
  exact ⟨rfl, rfl⟩

set_option maxHeartbeats 4000000 in
set_option maxRecDepth 100000 in
theorem IntervalHas_iv (s1 : Bool) (p1 : Option Addr) (k1 c1 : Nat) (q1 : Option Addr) (l1 d1 : Nat) (sz1 : Bool) (pz1 : Option Addr) (kz1 cz1 : Nat) (qz1 : Option Addr) (lz1 dz1 : Nat) (x1 : Bool) (y1 : Bool) (s2 : Bool) (p2 : Option Addr) (k2 c2 : Nat) (q2 : Option Addr) (l2 d2 : Nat) (a b t : Bool × Nat × Nat) (w : World) (ha : NRep w (.agg #[.bool s1, .slice p1 k1 c1, .slice q1 l1 d1]) a) (hb : NRep w (.agg #[.bool sz1, .slice pz1 kz1 cz1, .slice qz1 lz1 dz1]) b) (hx : NRep w (.agg #[.bool s2, .slice p2 k2 c2, .slice q2 l2 d2]) t) (ht : TabOk w) :
    Calls Tryz.prog 3 #[.agg #[.bool s1, .slice p1 k1 c1, .slice q1 l1 d1, .bool sz1, .slice pz1 kz1 cz1, .slice qz1 lz1 dz1, .bool x1, .bool y1], .agg #[.bool s2, .slice p2 k2 c2, .slice q2 l2 d2]] w fun e w' => e = .returned (.bool true) ∧ Below w.heap.size w w' := by
  have HP := hid (fun (W : World) (hW : Below w.heap.size w W) => iHas_any s1 p1 k1 c1 q1 l1 d1 sz1 pz1 kz1 cz1 qz1 lz1 dz1 x1 y1 s2 p2 k2 c2 q2 l2 d2 a b t W (ha.below hW) (hb.below hW) (hx.below hW) (ht.below hW))
  have HR := hid (fun (W : World) (hW : Below w.heap.size w W) => jHas_any s1 p1 k1 c1 q1 l1 d1 sz1 pz1 kz1 cz1 qz1 lz1 dz1 x1 y1 s2 p2 k2 c2 q2 l2 d2 a b t W (ha.below hW) (hb.below hW) (hx.below hW))
  have HA := hid (fun (W : World) (hW : Below w.heap.size w W) => awake3_any W (ht.below hW))
  clear ha hb hx ht
  obtain ⟨r, hr⟩ : ∃ r, r = hval (a, b, x1, y1) t := ⟨_, rfl⟩
  obtain ⟨c, hc⟩ : ∃ r, r = hcode (a, b, x1, y1) t := ⟨_, rfl⟩
  rw [← hr, ← hc] at HP HR
  clear hr hc
  go_enter Tryz.func3, Tryz.ntmps3
  go_wp2_with fail
  have HV := hid (pre2 w [.bool s1, .slice p1 k1 c1, .slice q1 l1 d1, .bool sz1, .slice pz1 kz1 cz1, .slice qz1 lz1 dz1, .bool x1, .bool y1] [.bool s2, .slice p2 k2 c2, .slice q2 l2 d2] 26 24 ⟨trivial, trivial, trivial, trivial, trivial, trivial, trivial, trivial, trivial⟩ ⟨trivial, trivial, trivial, trivial⟩)
  generalize (w.alloc (.cells #[.bool s1, .slice p1 k1 c1, .slice q1 l1 d1, .bool sz1, .slice pz1 kz1 cz1, .slice qz1 lz1 dz1, .bool x1, .bool y1] 26)).alloc (.cells #[.bool s2, .slice p2 k2 c2, .slice q2 l2 d2] 24) = W0 at *
  refine (HP.out _ HV.out.2.2).mono ?_
  rintro e w1 ⟨rfl, hB1⟩
  have HE := hid (HV.out.2.2.trans (hB1.mono HV.out.2.2.size))
  obtain ⟨m0, m1, m2, m3, m4, m5, m6, m7, _⟩ := (HV.out.1.below hB1).cells8
  obtain ⟨n0, n1, n2, _⟩ := (HV.out.2.1.below hB1).cells3
  clear hB1
  go_wp2_with fail
  refine (HR.out _ HE.out).mono ?_
  rintro e w2 ⟨rfl, hB2⟩
  have HE2 := hid (HE.out.trans (hB2.mono HE.out.size))
  clear hB2 m0 m1 m2 m3 m4 m5 m6 m7 n0 n1 n2
  go_wp2_with fail
  refine (yes_same r c w2).mono ?_
  rintro e w3 ⟨rfl, rfl⟩
  go_wp2_with fail
  refine (HA.out _ HE2.out).mono ?_
  rintro e w4 ⟨rfl, hB4⟩
  have HE4 := hid (HE2.out.trans (hB4.mono HE2.out.size))
  clear hB4
  go_wp2_with fail
  go_ret
  exact ⟨rfl, HE4.out⟩

theorem IntervalHas_any (va vx : Value) (a : (Bool × Nat × Nat) × (Bool × Nat × Nat) × Bool × Bool) (t : Bool × Nat × Nat) (w : World) (ha : IRep w va a) (hx : NRep w vx t) (ht : TabOk w) :
    Calls Tryz.prog 3 #[va, vx] w fun e w' => e = .returned (.bool true) ∧ Below w.heap.size w w' := by
  obtain ⟨s1, p1, k1, c1, q1, l1, d1, sz1, pz1, kz1, cz1, qz1, lz1, dz1, x1, y1, rfl, h1, h2, _, _⟩ := ha
  have HX := hx
  obtain ⟨_, _, rfl, ⟨p2, k2, c2, rfl, _⟩, ⟨q2, l2, d2, rfl, _⟩⟩ := hx
  exact IntervalHas_iv s1 p1 k1 c1 q1 l1 d1 sz1 pz1 kz1 cz1 qz1 lz1 dz1 x1 y1 _ p2 k2 c2 q2 l2 d2 _ _ t w h1 h2 HX ht
end Go.Proofs.YtpdpabpdejmdbaaGreatDoor
