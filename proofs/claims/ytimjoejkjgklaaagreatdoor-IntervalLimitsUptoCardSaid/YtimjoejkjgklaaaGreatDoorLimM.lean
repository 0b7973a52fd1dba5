/- The lesser and the greater ones of two sets, of the program. Min and Max of the program. The lesser and the greater ones of two sets: the mathematics. -/
import Derived.Test.YtimjoejkjgklaaaGreatDoorOrd
import Derived.Test.YtimjoejkjgklaaaGreatDoorBthI
import Derived.Test.YtimjoejkjgklaaaGreatDoorMkI
import Derived.Test.YtimjoejkjgklaaaGreatDoorHasU
set_option maxHeartbeats 2000000
set_option maxRecDepth 100000
namespace Go.Proofs.YtimjoejkjgklaaaGreatDoor
open Go.RowKit Dg
theorem sless_ret {W : World} {B : Nat} {a0 a1 a2 a3 a4 a5 a6 a7 a8 : Value} {tm : Array Value} {R : Ending → World → Prop} (h2 : tm[4]?.getD undef = .pointer (some ⟨B, 0, none⟩)) (hV : Box W B #[a0, a1, a2, a3, a4, a5, a6, a7, a8]) (hR : R (.returned (.agg #[a0, a1, a2, a3, a4, a5, a6, a7, a8])) W) :
  bodyPost Tryz.prog Tryz.f59 R .ret { tmps := tm, defers := [] } W := by
 obtain ⟨g0, g1, g2, g3, g4, g5, g6, g7, g8, _⟩ := hV.cells9
 exact bodyPost_ret (v := .agg #[a0, a1, a2, a3, a4, a5, a6, a7, a8]) (by simp [results, Tryz.results59, go_sem, h2, g0, g1, g2, g3, g4, g5, g6, g7, g8]) rfl hR
def sless (x y : (Int × Bool × Nat × Nat) × (Int × Bool × Nat × Nat) × Bool) : (Int × Bool × Nat × Nat) × (Int × Bool × Nat × Nat) × Bool := (emin x.1 y.1, emin x.2.1 y.2.1, false)
theorem sless_any (i1 : Int) (s1 : Bool) (p1 : Option Addr) (k1 c1 : Nat) (q1 : Option Addr) (l1 d1 : Nat) (j1 : Int) (sz1 : Bool) (pz1 : Option Addr) (kz1 cz1 : Nat) (qz1 : Option Addr) (lz1 dz1 : Nat) (e1 : Bool) (i2 : Int) (s2 : Bool) (p2 : Option Addr) (k2 c2 : Nat) (q2 : Option Addr) (l2 d2 : Nat) (j2 : Int) (sz2 : Bool) (pz2 : Option Addr) (kz2 cz2 : Nat) (qz2 : Option Addr) (lz2 dz2 : Nat) (e2 : Bool) (x y : (Int × Bool × Nat × Nat) × (Int × Bool × Nat × Nat) × Bool) (w : World) (h : SRep w (.agg #[.int .i64 i1, .bool s1, .slice p1 k1 c1, .slice q1 l1 d1, .int .i64 j1, .bool sz1, .slice pz1 kz1 cz1, .slice qz1 lz1 dz1, .bool e1]) x) (h' : SRep w (.agg #[.int .i64 i2, .bool s2, .slice p2 k2 c2, .slice q2 l2 d2, .int .i64 j2, .bool sz2, .slice pz2 kz2 cz2, .slice qz2 lz2 dz2, .bool e2]) y) (hx : EOk 1000 x.1 ∧ EOk 1000 x.2.1) (hy : EOk 1000 y.1 ∧ EOk 1000 y.2.1) :
  Calls Tryz.prog 59 #[.agg #[.int .i64 i1, .bool s1, .slice p1 k1 c1, .slice q1 l1 d1, .int .i64 j1, .bool sz1, .slice pz1 kz1 cz1, .slice qz1 lz1 dz1, .bool e1], .agg #[.int .i64 i2, .bool s2, .slice p2 k2 c2, .slice q2 l2 d2, .int .i64 j2, .bool sz2, .slice pz2 kz2 cz2, .slice qz2 lz2 dz2, .bool e2]] w fun e w' => ∃ i3 s3 p3 k3 c3 q3 l3 d3 j3 sz3 pz3 kz3 cz3 qz3 lz3 dz3 e3, e = .returned (.agg #[.int .i64 i3, .bool s3, .slice p3 k3 c3, .slice q3 l3 d3, .int .i64 j3, .bool sz3, .slice pz3 kz3 cz3, .slice qz3 lz3 dz3, .bool e3]) ∧ Hid (SRep w' (.agg #[.int .i64 i3, .bool s3, .slice p3 k3 c3, .slice q3 l3 d3, .int .i64 j3, .bool sz3, .slice pz3 kz3 cz3, .slice qz3 lz3 dz3, .bool e3]) (sless x y)) ∧ Below w.heap.size w w' := by
 have h1 := h.ends
 have h2 := h'.ends
 have HL := hid (fun (W : World) (hW : Below w.heap.size w W) => eleast_any i1 s1 p1 k1 c1 q1 l1 d1 i2 s2 p2 k2 c2 q2 l2 d2 x.1 y.1 1000 W (h1.1.below hW) (h2.1.below hW) hx.1 hy.1 (by omega))
 have HH := hid (fun (W : World) (hW : Below w.heap.size w W) => eleast_any j1 sz1 pz1 kz1 cz1 qz1 lz1 dz1 j2 sz2 pz2 kz2 cz2 qz2 lz2 dz2 x.2.1 y.2.1 1000 W (h1.2.1.below hW) (h2.2.1.below hW) hx.2 hy.2 (by omega))
 clear h h' hx hy h1 h2
 obtain ⟨r, hr⟩ : ∃ r, r = sless x y := ⟨_, rfl⟩
 obtain ⟨rl, hrl⟩ : ∃ r, r = emin x.1 y.1 := ⟨_, rfl⟩
 obtain ⟨rh, hrh⟩ : ∃ r, r = emin x.2.1 y.2.1 := ⟨_, rfl⟩
 rw [← hr]
 rw [← hrl] at HL
 rw [← hrh] at HH
 have HX : Hid (r = (rl, rh, false)) := hid (by rw [hr, hrl, hrh]; rfl)
 clear hr hrl hrh
 go_enter Tryz.func59, Tryz.ntmps59
 go_wp2_with fail
 have HV := hid (pre3 w [.int .i64 i1, .bool s1, .slice p1 k1 c1, .slice q1 l1 d1, .int .i64 j1, .bool sz1, .slice pz1 kz1 cz1, .slice qz1 lz1 dz1, .bool e1] [.int .i64 i2, .bool s2, .slice p2 k2 c2, .slice q2 l2 d2, .int .i64 j2, .bool sz2, .slice pz2 kz2 cz2, .slice qz2 lz2 dz2, .bool e2] [.int .i64 0, .bool false, .slice none 0 0, .slice none 0 0, .int .i64 0, .bool false, .slice none 0 0, .slice none 0 0, .bool false] 61 61 61 nd9 nd9 nd9)
 generalize ((w.alloc (.cells #[.int .i64 i1, .bool s1, .slice p1 k1 c1, .slice q1 l1 d1, .int .i64 j1, .bool sz1, .slice pz1 kz1 cz1, .slice qz1 lz1 dz1, .bool e1] 61)).alloc (.cells #[.int .i64 i2, .bool s2, .slice p2 k2 c2, .slice q2 l2 d2, .int .i64 j2, .bool sz2, .slice pz2 kz2 cz2, .slice qz2 lz2 dz2, .bool e2] 61)).alloc (.cells #[.int .i64 0, .bool false, .slice none 0 0, .slice none 0 0, .int .i64 0, .bool false, .slice none 0 0, .slice none 0 0, .bool false] 61) = W0 at *
 have HQ := hid (QQ.i2 (cs := [.int .i64 i1, .bool s1, .slice p1 k1 c1, .slice q1 l1 d1, .int .i64 j1, .bool sz1, .slice pz1 kz1 cz1, .slice qz1 lz1 dz1, .bool e1]) (cs' := [.int .i64 i2, .bool s2, .slice p2 k2 c2, .slice q2 l2 d2, .int .i64 j2, .bool sz2, .slice pz2 kz2 cz2, .slice qz2 lz2 dz2, .bool e2]) HV.out.1 HV.out.2.1 HV.out.2.2.2)
 have HS : Hid (∀ w', QQ w [(w.heap.size, [.int .i64 i1, .bool s1, .slice p1 k1 c1, .slice q1 l1 d1, .int .i64 j1, .bool sz1, .slice pz1 kz1 cz1, .slice qz1 lz1 dz1, .bool e1]), (w.heap.size + 1, [.int .i64 i2, .bool s2, .slice p2 k2 c2, .slice q2 l2 d2, .int .i64 j2, .bool sz2, .slice pz2 kz2 cz2, .slice qz2 lz2 dz2, .bool e2])] w' → (w'.cell? ⟨w.heap.size, 0, none⟩ = some (.int .i64 i1) ∧ w'.cell? ⟨w.heap.size, 1, none⟩ = some (.bool s1) ∧ w'.cell? ⟨w.heap.size, 2, none⟩ = some (.slice p1 k1 c1) ∧ w'.cell? ⟨w.heap.size, 3, none⟩ = some (.slice q1 l1 d1) ∧ w'.cell? ⟨w.heap.size, 4, none⟩ = some (.int .i64 j1) ∧ w'.cell? ⟨w.heap.size, 5, none⟩ = some (.bool sz1) ∧ w'.cell? ⟨w.heap.size, 6, none⟩ = some (.slice pz1 kz1 cz1) ∧ w'.cell? ⟨w.heap.size, 7, none⟩ = some (.slice qz1 lz1 dz1) ∧ w'.cell? ⟨w.heap.size, 8, none⟩ = some (.bool e1) ∧ w'.cell? ⟨w.heap.size + 1, 0, none⟩ = some (.int .i64 i2) ∧ w'.cell? ⟨w.heap.size + 1, 1, none⟩ = some (.bool s2) ∧ w'.cell? ⟨w.heap.size + 1, 2, none⟩ = some (.slice p2 k2 c2) ∧ w'.cell? ⟨w.heap.size + 1, 3, none⟩ = some (.slice q2 l2 d2) ∧ w'.cell? ⟨w.heap.size + 1, 4, none⟩ = some (.int .i64 j2) ∧ w'.cell? ⟨w.heap.size + 1, 5, none⟩ = some (.bool sz2) ∧ w'.cell? ⟨w.heap.size + 1, 6, none⟩ = some (.slice pz2 kz2 cz2) ∧ w'.cell? ⟨w.heap.size + 1, 7, none⟩ = some (.slice qz2 lz2 dz2) ∧ w'.cell? ⟨w.heap.size + 1, 8, none⟩ = some (.bool e2) ∧ Hid (QQ w [(w.heap.size, [.int .i64 i1, .bool s1, .slice p1 k1 c1, .slice q1 l1 d1, .int .i64 j1, .bool sz1, .slice pz1 kz1 cz1, .slice qz1 lz1 dz1, .bool e1]), (w.heap.size + 1, [.int .i64 i2, .bool s2, .slice p2 k2 c2, .slice q2 l2 d2, .int .i64 j2, .bool sz2, .slice pz2 kz2 cz2, .slice qz2 lz2 dz2, .bool e2])] w'))) :=
  hid fun w' hb => ⟨(hb.b1.cells9).1, (hb.b1.cells9).2.1, (hb.b1.cells9).2.2.1, (hb.b1.cells9).2.2.2.1, (hb.b1.cells9).2.2.2.2.1, (hb.b1.cells9).2.2.2.2.2.1, (hb.b1.cells9).2.2.2.2.2.2.1, (hb.b1.cells9).2.2.2.2.2.2.2.1, (hb.b1.cells9).2.2.2.2.2.2.2.2.1, (hb.b2.cells9).1, (hb.b2.cells9).2.1, (hb.b2.cells9).2.2.1, (hb.b2.cells9).2.2.2.1, (hb.b2.cells9).2.2.2.2.1, (hb.b2.cells9).2.2.2.2.2.1, (hb.b2.cells9).2.2.2.2.2.2.1, (hb.b2.cells9).2.2.2.2.2.2.2.1, (hb.b2.cells9).2.2.2.2.2.2.2.2.1, hid hb⟩
 have HN : Hid (Apart [(w.heap.size, [.int .i64 i1, .bool s1, .slice p1 k1 c1, .slice q1 l1 d1, .int .i64 j1, .bool sz1, .slice pz1 kz1 cz1, .slice qz1 lz1 dz1, .bool e1]), (w.heap.size + 1, [.int .i64 i2, .bool s2, .slice p2 k2 c2, .slice q2 l2 d2, .int .i64 j2, .bool sz2, .slice pz2 kz2 cz2, .slice qz2 lz2 dz2, .bool e2])] (w.heap.size + 1 + 1)) := hid (ne2 (by omega) (by omega))
 have HI : Hid (w.heap.size ≤ w.heap.size + 1 + 1) := hid (by omega)
 go_region_held3 (fun w' => w'.cell? ⟨w.heap.size, 0, none⟩ = some (.int .i64 i1) ∧ w'.cell? ⟨w.heap.size, 1, none⟩ = some (.bool s1) ∧ w'.cell? ⟨w.heap.size, 2, none⟩ = some (.slice p1 k1 c1) ∧ w'.cell? ⟨w.heap.size, 3, none⟩ = some (.slice q1 l1 d1) ∧ w'.cell? ⟨w.heap.size, 4, none⟩ = some (.int .i64 j1) ∧ w'.cell? ⟨w.heap.size, 5, none⟩ = some (.bool sz1) ∧ w'.cell? ⟨w.heap.size, 6, none⟩ = some (.slice pz1 kz1 cz1) ∧ w'.cell? ⟨w.heap.size, 7, none⟩ = some (.slice qz1 lz1 dz1) ∧ w'.cell? ⟨w.heap.size, 8, none⟩ = some (.bool e1) ∧ w'.cell? ⟨w.heap.size + 1, 0, none⟩ = some (.int .i64 i2) ∧ w'.cell? ⟨w.heap.size + 1, 1, none⟩ = some (.bool s2) ∧ w'.cell? ⟨w.heap.size + 1, 2, none⟩ = some (.slice p2 k2 c2) ∧ w'.cell? ⟨w.heap.size + 1, 3, none⟩ = some (.slice q2 l2 d2) ∧ w'.cell? ⟨w.heap.size + 1, 4, none⟩ = some (.int .i64 j2) ∧ w'.cell? ⟨w.heap.size + 1, 5, none⟩ = some (.bool sz2) ∧ w'.cell? ⟨w.heap.size + 1, 6, none⟩ = some (.slice pz2 kz2 cz2) ∧ w'.cell? ⟨w.heap.size + 1, 7, none⟩ = some (.slice qz2 lz2 dz2) ∧ w'.cell? ⟨w.heap.size + 1, 8, none⟩ = some (.bool e2) ∧ Hid (QQ w [(w.heap.size, [.int .i64 i1, .bool s1, .slice p1 k1 c1, .slice q1 l1 d1, .int .i64 j1, .bool sz1, .slice pz1 kz1 cz1, .slice qz1 lz1 dz1, .bool e1]), (w.heap.size + 1, [.int .i64 i2, .bool s2, .slice p2 k2 c2, .slice q2 l2 d2, .int .i64 j2, .bool sz2, .slice pz2 kz2 cz2, .slice qz2 lz2 dz2, .bool e2])] w'))
  (first | (refine HS.out _ ?_; first | (with_reducible exact HQ.out.drew) | (with_reducible assumption) | (with_reducible refine QQ.st9 ?_ HN.out HI.out; assumption)))
  (first
   | (go_at_call_of 113 p1; refine (HL.out _ HQ.out.drew.bel).mono ?_; rintro e wa ⟨i4, s4, p4, k4, c4, q4, l4, d4, rfl, hE1, hB1⟩; have hQ1 := HQ.out.drew.call hB1; have hV1 := (HV.out.2.2.1.drew).below hB1)
   | (go_at_call_of 113 pz1; refine (HH.out _ hQ1.bel).mono ?_; rintro e wb ⟨i5, s5, p5, k5, c5, q5, l5, d5, rfl, hE2, hB2⟩; have hQ2 := hQ1.call hB2; have hV2 := hV1.below hB2; obtain ⟨g0, g1, g2, g3, g4, g5, g6, g7, g8, f0, f1, f2, f3, f4, f5, f6, f7, f8⟩ := hV2.cells9))
 rename_i hHeld
 clear hHeld
 have HE := hid (And.intro hV2 (And.intro (hE1.out.below hB2) (And.intro hE2.out hQ2.bel)))
 clear hQ1 hQ2 hV1 hV2 hB1 hB2 hE1 hE2
 go_wp2_with fail
 exact sless_ret rfl (HE.out.1.stores [.int .i64 i4, .bool s4, .slice p4 k4 c4, .slice q4 l4 d4, .int .i64 i5, .bool s5, .slice p5 k5 c5, .slice q5 l5 d5, .bool false] rfl nd9) ⟨_, _, _, _, _, _, _, _, _, _, _, _, _, _, _, _, _, rfl, hid ⟨_, _, _, _, _, _, _, _, _, _, _, _, _, _, _, _, _, rfl, by rw [HX.out]; exact ERep.stores (k := 0) (l := [.int .i64 i4, .bool s4, .slice p4 k4 c4, .slice q4 l4 d4, .int .i64 i5, .bool s5, .slice p5 k5 c5, .slice q5 l5 d5, .bool false]) HE.out.2.1 HE.out.1 nd9, by rw [HX.out]; exact ERep.stores (k := 0) (l := [.int .i64 i4, .bool s4, .slice p4 k4 c4, .slice q4 l4 d4, .int .i64 i5, .bool s5, .slice p5 k5 c5, .slice q5 l5 d5, .bool false]) HE.out.2.2.1 HE.out.1 nd9, by rw [HX.out]⟩, Below.stores (k := 0) (l := [.int .i64 i4, .bool s4, .slice p4 k4 c4, .slice q4 l4 d4, .int .i64 i5, .bool s5, .slice p5 k5 c5, .slice q5 l5 d5, .bool false]) HE.out.2.2.2 HI.out⟩
theorem smost_ret {W : World} {B : Nat} {a0 a1 a2 a3 a4 a5 a6 a7 a8 : Value} {tm : Array Value} {R : Ending → World → Prop} (h2 : tm[4]?.getD undef = .pointer (some ⟨B, 0, none⟩)) (hV : Box W B #[a0, a1, a2, a3, a4, a5, a6, a7, a8]) (hR : R (.returned (.agg #[a0, a1, a2, a3, a4, a5, a6, a7, a8])) W) :
  bodyPost Tryz.prog Tryz.f62 R .ret { tmps := tm, defers := [] } W := by
 obtain ⟨g0, g1, g2, g3, g4, g5, g6, g7, g8, _⟩ := hV.cells9
 exact bodyPost_ret (v := .agg #[a0, a1, a2, a3, a4, a5, a6, a7, a8]) (by simp [results, Tryz.results62, go_sem, h2, g0, g1, g2, g3, g4, g5, g6, g7, g8]) rfl hR
def smost (x y : (Int × Bool × Nat × Nat) × (Int × Bool × Nat × Nat) × Bool) : (Int × Bool × Nat × Nat) × (Int × Bool × Nat × Nat) × Bool := (emax x.1 y.1, emax x.2.1 y.2.1, false)
theorem smost_any (i1 : Int) (s1 : Bool) (p1 : Option Addr) (k1 c1 : Nat) (q1 : Option Addr) (l1 d1 : Nat) (j1 : Int) (sz1 : Bool) (pz1 : Option Addr) (kz1 cz1 : Nat) (qz1 : Option Addr) (lz1 dz1 : Nat) (e1 : Bool) (i2 : Int) (s2 : Bool) (p2 : Option Addr) (k2 c2 : Nat) (q2 : Option Addr) (l2 d2 : Nat) (j2 : Int) (sz2 : Bool) (pz2 : Option Addr) (kz2 cz2 : Nat) (qz2 : Option Addr) (lz2 dz2 : Nat) (e2 : Bool) (x y : (Int × Bool × Nat × Nat) × (Int × Bool × Nat × Nat) × Bool) (w : World) (h : SRep w (.agg #[.int .i64 i1, .bool s1, .slice p1 k1 c1, .slice q1 l1 d1, .int .i64 j1, .bool sz1, .slice pz1 kz1 cz1, .slice qz1 lz1 dz1, .bool e1]) x) (h' : SRep w (.agg #[.int .i64 i2, .bool s2, .slice p2 k2 c2, .slice q2 l2 d2, .int .i64 j2, .bool sz2, .slice pz2 kz2 cz2, .slice qz2 lz2 dz2, .bool e2]) y) (hx : EOk 1000 x.1 ∧ EOk 1000 x.2.1) (hy : EOk 1000 y.1 ∧ EOk 1000 y.2.1) :
  Calls Tryz.prog 62 #[.agg #[.int .i64 i1, .bool s1, .slice p1 k1 c1, .slice q1 l1 d1, .int .i64 j1, .bool sz1, .slice pz1 kz1 cz1, .slice qz1 lz1 dz1, .bool e1], .agg #[.int .i64 i2, .bool s2, .slice p2 k2 c2, .slice q2 l2 d2, .int .i64 j2, .bool sz2, .slice pz2 kz2 cz2, .slice qz2 lz2 dz2, .bool e2]] w fun e w' => ∃ i3 s3 p3 k3 c3 q3 l3 d3 j3 sz3 pz3 kz3 cz3 qz3 lz3 dz3 e3, e = .returned (.agg #[.int .i64 i3, .bool s3, .slice p3 k3 c3, .slice q3 l3 d3, .int .i64 j3, .bool sz3, .slice pz3 kz3 cz3, .slice qz3 lz3 dz3, .bool e3]) ∧ Hid (SRep w' (.agg #[.int .i64 i3, .bool s3, .slice p3 k3 c3, .slice q3 l3 d3, .int .i64 j3, .bool sz3, .slice pz3 kz3 cz3, .slice qz3 lz3 dz3, .bool e3]) (smost x y)) ∧ Below w.heap.size w w' := by
 have h1 := h.ends
 have h2 := h'.ends
 have HL := hid (fun (W : World) (hW : Below w.heap.size w W) => egreatest_any i1 s1 p1 k1 c1 q1 l1 d1 i2 s2 p2 k2 c2 q2 l2 d2 x.1 y.1 1000 W (h1.1.below hW) (h2.1.below hW) hx.1 hy.1 (by omega))
 have HH := hid (fun (W : World) (hW : Below w.heap.size w W) => egreatest_any j1 sz1 pz1 kz1 cz1 qz1 lz1 dz1 j2 sz2 pz2 kz2 cz2 qz2 lz2 dz2 x.2.1 y.2.1 1000 W (h1.2.1.below hW) (h2.2.1.below hW) hx.2 hy.2 (by omega))
 clear h h' hx hy h1 h2
 obtain ⟨r, hr⟩ : ∃ r, r = smost x y := ⟨_, rfl⟩
 obtain ⟨rl, hrl⟩ : ∃ r, r = emax x.1 y.1 := ⟨_, rfl⟩
 obtain ⟨rh, hrh⟩ : ∃ r, r = emax x.2.1 y.2.1 := ⟨_, rfl⟩
 rw [← hr]
 rw [← hrl] at HL
 rw [← hrh] at HH
 have HX : Hid (r = (rl, rh, false)) := hid (by rw [hr, hrl, hrh]; rfl)
 clear hr hrl hrh
 go_enter Tryz.func62, Tryz.ntmps62
 go_wp2_with fail
 have HV := hid (pre3 w [.int .i64 i1, .bool s1, .slice p1 k1 c1, .slice q1 l1 d1, .int .i64 j1, .bool sz1, .slice pz1 kz1 cz1, .slice qz1 lz1 dz1, .bool e1] [.int .i64 i2, .bool s2, .slice p2 k2 c2, .slice q2 l2 d2, .int .i64 j2, .bool sz2, .slice pz2 kz2 cz2, .slice qz2 lz2 dz2, .bool e2] [.int .i64 0, .bool false, .slice none 0 0, .slice none 0 0, .int .i64 0, .bool false, .slice none 0 0, .slice none 0 0, .bool false] 61 61 61 nd9 nd9 nd9)
 generalize ((w.alloc (.cells #[.int .i64 i1, .bool s1, .slice p1 k1 c1, .slice q1 l1 d1, .int .i64 j1, .bool sz1, .slice pz1 kz1 cz1, .slice qz1 lz1 dz1, .bool e1] 61)).alloc (.cells #[.int .i64 i2, .bool s2, .slice p2 k2 c2, .slice q2 l2 d2, .int .i64 j2, .bool sz2, .slice pz2 kz2 cz2, .slice qz2 lz2 dz2, .bool e2] 61)).alloc (.cells #[.int .i64 0, .bool false, .slice none 0 0, .slice none 0 0, .int .i64 0, .bool false, .slice none 0 0, .slice none 0 0, .bool false] 61) = W0 at *
 have HQ := hid (QQ.i2 (cs := [.int .i64 i1, .bool s1, .slice p1 k1 c1, .slice q1 l1 d1, .int .i64 j1, .bool sz1, .slice pz1 kz1 cz1, .slice qz1 lz1 dz1, .bool e1]) (cs' := [.int .i64 i2, .bool s2, .slice p2 k2 c2, .slice q2 l2 d2, .int .i64 j2, .bool sz2, .slice pz2 kz2 cz2, .slice qz2 lz2 dz2, .bool e2]) HV.out.1 HV.out.2.1 HV.out.2.2.2)
 have HS : Hid (∀ w', QQ w [(w.heap.size, [.int .i64 i1, .bool s1, .slice p1 k1 c1, .slice q1 l1 d1, .int .i64 j1, .bool sz1, .slice pz1 kz1 cz1, .slice qz1 lz1 dz1, .bool e1]), (w.heap.size + 1, [.int .i64 i2, .bool s2, .slice p2 k2 c2, .slice q2 l2 d2, .int .i64 j2, .bool sz2, .slice pz2 kz2 cz2, .slice qz2 lz2 dz2, .bool e2])] w' → (w'.cell? ⟨w.heap.size, 0, none⟩ = some (.int .i64 i1) ∧ w'.cell? ⟨w.heap.size, 1, none⟩ = some (.bool s1) ∧ w'.cell? ⟨w.heap.size, 2, none⟩ = some (.slice p1 k1 c1) ∧ w'.cell? ⟨w.heap.size, 3, none⟩ = some (.slice q1 l1 d1) ∧ w'.cell? ⟨w.heap.size, 4, none⟩ = some (.int .i64 j1) ∧ w'.cell? ⟨w.heap.size, 5, none⟩ = some (.bool sz1) ∧ w'.cell? ⟨w.heap.size, 6, none⟩ = some (.slice pz1 kz1 cz1) ∧ w'.cell? ⟨w.heap.size, 7, none⟩ = some (.slice qz1 lz1 dz1) ∧ w'.cell? ⟨w.heap.size, 8, none⟩ = some (.bool e1) ∧ w'.cell? ⟨w.heap.size + 1, 0, none⟩ = some (.int .i64 i2) ∧ w'.cell? ⟨w.heap.size + 1, 1, none⟩ = some (.bool s2) ∧ w'.cell? ⟨w.heap.size + 1, 2, none⟩ = some (.slice p2 k2 c2) ∧ w'.cell? ⟨w.heap.size + 1, 3, none⟩ = some (.slice q2 l2 d2) ∧ w'.cell? ⟨w.heap.size + 1, 4, none⟩ = some (.int .i64 j2) ∧ w'.cell? ⟨w.heap.size + 1, 5, none⟩ = some (.bool sz2) ∧ w'.cell? ⟨w.heap.size + 1, 6, none⟩ = some (.slice pz2 kz2 cz2) ∧ w'.cell? ⟨w.heap.size + 1, 7, none⟩ = some (.slice qz2 lz2 dz2) ∧ w'.cell? ⟨w.heap.size + 1, 8, none⟩ = some (.bool e2) ∧ Hid (QQ w [(w.heap.size, [.int .i64 i1, .bool s1, .slice p1 k1 c1, .slice q1 l1 d1, .int .i64 j1, .bool sz1, .slice pz1 kz1 cz1, .slice qz1 lz1 dz1, .bool e1]), (w.heap.size + 1, [.int .i64 i2, .bool s2, .slice p2 k2 c2, .slice q2 l2 d2, .int .i64 j2, .bool sz2, .slice pz2 kz2 cz2, .slice qz2 lz2 dz2, .bool e2])] w'))) :=
  hid fun w' hb => ⟨(hb.b1.cells9).1, (hb.b1.cells9).2.1, (hb.b1.cells9).2.2.1, (hb.b1.cells9).2.2.2.1, (hb.b1.cells9).2.2.2.2.1, (hb.b1.cells9).2.2.2.2.2.1, (hb.b1.cells9).2.2.2.2.2.2.1, (hb.b1.cells9).2.2.2.2.2.2.2.1, (hb.b1.cells9).2.2.2.2.2.2.2.2.1, (hb.b2.cells9).1, (hb.b2.cells9).2.1, (hb.b2.cells9).2.2.1, (hb.b2.cells9).2.2.2.1, (hb.b2.cells9).2.2.2.2.1, (hb.b2.cells9).2.2.2.2.2.1, (hb.b2.cells9).2.2.2.2.2.2.1, (hb.b2.cells9).2.2.2.2.2.2.2.1, (hb.b2.cells9).2.2.2.2.2.2.2.2.1, hid hb⟩
 have HN : Hid (Apart [(w.heap.size, [.int .i64 i1, .bool s1, .slice p1 k1 c1, .slice q1 l1 d1, .int .i64 j1, .bool sz1, .slice pz1 kz1 cz1, .slice qz1 lz1 dz1, .bool e1]), (w.heap.size + 1, [.int .i64 i2, .bool s2, .slice p2 k2 c2, .slice q2 l2 d2, .int .i64 j2, .bool sz2, .slice pz2 kz2 cz2, .slice qz2 lz2 dz2, .bool e2])] (w.heap.size + 1 + 1)) := hid (ne2 (by omega) (by omega))
 have HI : Hid (w.heap.size ≤ w.heap.size + 1 + 1) := hid (by omega)
 go_region_held3 (fun w' => w'.cell? ⟨w.heap.size, 0, none⟩ = some (.int .i64 i1) ∧ w'.cell? ⟨w.heap.size, 1, none⟩ = some (.bool s1) ∧ w'.cell? ⟨w.heap.size, 2, none⟩ = some (.slice p1 k1 c1) ∧ w'.cell? ⟨w.heap.size, 3, none⟩ = some (.slice q1 l1 d1) ∧ w'.cell? ⟨w.heap.size, 4, none⟩ = some (.int .i64 j1) ∧ w'.cell? ⟨w.heap.size, 5, none⟩ = some (.bool sz1) ∧ w'.cell? ⟨w.heap.size, 6, none⟩ = some (.slice pz1 kz1 cz1) ∧ w'.cell? ⟨w.heap.size, 7, none⟩ = some (.slice qz1 lz1 dz1) ∧ w'.cell? ⟨w.heap.size, 8, none⟩ = some (.bool e1) ∧ w'.cell? ⟨w.heap.size + 1, 0, none⟩ = some (.int .i64 i2) ∧ w'.cell? ⟨w.heap.size + 1, 1, none⟩ = some (.bool s2) ∧ w'.cell? ⟨w.heap.size + 1, 2, none⟩ = some (.slice p2 k2 c2) ∧ w'.cell? ⟨w.heap.size + 1, 3, none⟩ = some (.slice q2 l2 d2) ∧ w'.cell? ⟨w.heap.size + 1, 4, none⟩ = some (.int .i64 j2) ∧ w'.cell? ⟨w.heap.size + 1, 5, none⟩ = some (.bool sz2) ∧ w'.cell? ⟨w.heap.size + 1, 6, none⟩ = some (.slice pz2 kz2 cz2) ∧ w'.cell? ⟨w.heap.size + 1, 7, none⟩ = some (.slice qz2 lz2 dz2) ∧ w'.cell? ⟨w.heap.size + 1, 8, none⟩ = some (.bool e2) ∧ Hid (QQ w [(w.heap.size, [.int .i64 i1, .bool s1, .slice p1 k1 c1, .slice q1 l1 d1, .int .i64 j1, .bool sz1, .slice pz1 kz1 cz1, .slice qz1 lz1 dz1, .bool e1]), (w.heap.size + 1, [.int .i64 i2, .bool s2, .slice p2 k2 c2, .slice q2 l2 d2, .int .i64 j2, .bool sz2, .slice pz2 kz2 cz2, .slice qz2 lz2 dz2, .bool e2])] w'))
  (first | (refine HS.out _ ?_; first | (with_reducible exact HQ.out.drew) | (with_reducible assumption) | (with_reducible refine QQ.st9 ?_ HN.out HI.out; assumption)))
  (first
   | (go_at_call_of 116 p1; refine (HL.out _ HQ.out.drew.bel).mono ?_; rintro e wa ⟨i4, s4, p4, k4, c4, q4, l4, d4, rfl, hE1, hB1⟩; have hQ1 := HQ.out.drew.call hB1; have hV1 := (HV.out.2.2.1.drew).below hB1)
   | (go_at_call_of 116 pz1; refine (HH.out _ hQ1.bel).mono ?_; rintro e wb ⟨i5, s5, p5, k5, c5, q5, l5, d5, rfl, hE2, hB2⟩; have hQ2 := hQ1.call hB2; have hV2 := hV1.below hB2; obtain ⟨g0, g1, g2, g3, g4, g5, g6, g7, g8, f0, f1, f2, f3, f4, f5, f6, f7, f8⟩ := hV2.cells9))
 rename_i hHeld
 clear hHeld
 have HE := hid (And.intro hV2 (And.intro (hE1.out.below hB2) (And.intro hE2.out hQ2.bel)))
 clear hQ1 hQ2 hV1 hV2 hB1 hB2 hE1 hE2
 go_wp2_with fail
 exact smost_ret rfl (HE.out.1.stores [.int .i64 i4, .bool s4, .slice p4 k4 c4, .slice q4 l4 d4, .int .i64 i5, .bool s5, .slice p5 k5 c5, .slice q5 l5 d5, .bool false] rfl nd9) ⟨_, _, _, _, _, _, _, _, _, _, _, _, _, _, _, _, _, rfl, hid ⟨_, _, _, _, _, _, _, _, _, _, _, _, _, _, _, _, _, rfl, by rw [HX.out]; exact ERep.stores (k := 0) (l := [.int .i64 i4, .bool s4, .slice p4 k4 c4, .slice q4 l4 d4, .int .i64 i5, .bool s5, .slice p5 k5 c5, .slice q5 l5 d5, .bool false]) HE.out.2.1 HE.out.1 nd9, by rw [HX.out]; exact ERep.stores (k := 0) (l := [.int .i64 i4, .bool s4, .slice p4 k4 c4, .slice q4 l4 d4, .int .i64 i5, .bool s5, .slice p5 k5 c5, .slice q5 l5 d5, .bool false]) HE.out.2.2.1 HE.out.1 nd9, by rw [HX.out]⟩, Below.stores (k := 0) (l := [.int .i64 i4, .bool s4, .slice p4 k4 c4, .slice q4 l4 d4, .int .i64 i5, .bool s5, .slice p5 k5 c5, .slice q5 l5 d5, .bool false]) HE.out.2.2.2 HI.out⟩
end Go.Proofs.YtimjoejkjgklaaaGreatDoor
namespace Go.Proofs.YtimjoejkjgklaaaGreatDoor
open Go.RowKit Dg
theorem EOk.mini {A : Nat} {x y : Int × Bool × Nat × Nat} (hx : EOk A x) (hy : EOk A y) : EOk A (emin x y) := by unfold emin; split <;> assumption
theorem EOk.maxi {A : Nat} {x y : Int × Bool × Nat × Nat} (hx : EOk A x) (hy : EOk A y) : EOk A (emax x y) := by unfold emax; split <;> assumption
theorem enter_sless (args : Array Value) (w : World) : (callFunc 59 args).run Tryz.prog w = .ok (.enter 59 args) w := call_enter Tryz.func59 (by kernel_rfl) rfl args w
theorem iMin_ret {W : World} {B : Nat} {a0 a1 a2 a3 a4 a5 a6 a7 ev : Value} {tm : Array Value} {R : Ending → World → Prop} (h2 : tm[4]?.getD undef = .pointer (some ⟨B, 0, none⟩)) (h3 : tm[5]?.getD undef = ev) (hV : Box W B #[a0, a1, a2, a3, a4, a5, a6, a7]) (hR : R (.returned (.tuple #[.agg #[a0, a1, a2, a3, a4, a5, a6, a7], ev])) W) :
  bodyPost Tryz.prog Tryz.f21 R .ret { tmps := tm, defers := [] } W := by
 obtain ⟨g0, g1, g2, g3, g4, g5, g6, g7, _⟩ := hV.cells8
 exact bodyPost_ret (v := .tuple #[.agg #[a0, a1, a2, a3, a4, a5, a6, a7], ev]) (by simp [results, Tryz.results21, go_sem, h2, h3, g0, g1, g2, g3, g4, g5, g6, g7]) rfl hR
theorem iMin_any (s1 : Bool) (p1 : Option Addr) (k1 c1 : Nat) (q1 : Option Addr) (l1 d1 : Nat) (sz1 : Bool) (pz1 : Option Addr) (kz1 cz1 : Nat) (qz1 : Option Addr) (lz1 dz1 : Nat) (x1 : Bool) (y1 : Bool) (s2 : Bool) (p2 : Option Addr) (k2 c2 : Nat) (q2 : Option Addr) (l2 d2 : Nat) (sz2 : Bool) (pz2 : Option Addr) (kz2 cz2 : Nat) (qz2 : Option Addr) (lz2 dz2 : Nat) (x2 : Bool) (y2 : Bool) (a b a' b' : Bool × Nat × Nat) (w : World) (ha : NRep w (.agg #[.bool s1, .slice p1 k1 c1, .slice q1 l1 d1]) a) (hb : NRep w (.agg #[.bool sz1, .slice pz1 kz1 cz1, .slice qz1 lz1 dz1]) b) (ha' : NRep w (.agg #[.bool s2, .slice p2 k2 c2, .slice q2 l2 d2]) a') (hb' : NRep w (.agg #[.bool sz2, .slice pz2 kz2 cz2, .slice qz2 lz2 dz2]) b') (ht : TabOk w) :
  Calls Tryz.prog 21 #[.agg #[.bool s1, .slice p1 k1 c1, .slice q1 l1 d1, .bool sz1, .slice pz1 kz1 cz1, .slice qz1 lz1 dz1, .bool x1, .bool y1], .agg #[.bool s2, .slice p2 k2 c2, .slice q2 l2 d2, .bool sz2, .slice pz2 kz2 cz2, .slice qz2 lz2 dz2, .bool x2, .bool y2]] w fun e w' => ∃ s5 p5 k5 c5 q5 l5 d5 sz5 pz5 kz5 cz5 qz5 lz5 dz5 x5 y5, e = .returned (.tuple #[.agg #[.bool s5, .slice p5 k5 c5, .slice q5 l5 d5, .bool sz5, .slice pz5 kz5 cz5, .slice qz5 lz5 dz5, .bool x5, .bool y5], .int .i64 (b2code true sless (a, b, x1, y1) (a', b', x2, y2))]) ∧ Hid (GRep w' (.agg #[.bool s5, .slice p5 k5 c5, .slice q5 l5 d5, .bool sz5, .slice pz5 kz5 cz5, .slice qz5 lz5 dz5, .bool x5, .bool y5]) (b2val true sless (a, b, x1, y1) (a', b', x2, y2))) ∧ Below w.heap.size w w' := by
 have HC := hid (fun (W : World) (hW : Below w.heap.size w W) =>
  both_gen s1 p1 k1 c1 q1 l1 d1 sz1 pz1 kz1 cz1 qz1 lz1 dz1 x1 y1 s2 p2 k2 c2 q2 l2 d2 sz2 pz2 kz2 cz2 qz2 lz2 dz2 x2 y2 true 59 #[] sless a b a' b' W (ha.below hW) (hb.below hW) (ha'.below hW) (hb'.below hW) (ht.below hW) enter_sless
   (fun _ h1 h2 h3 h4 _ _ => ⟨⟨(((rdE_ok (.inr rfl) h1).mini (rdE_ok (.inr rfl) h3))).le (by omega), (((rdE_ok (.inl rfl) h2).mini (rdE_ok (.inl rfl) h4))).le (by omega)⟩, rfl⟩)
   (fun _ h1 h2 h3 h4 _ _ W' i3 s3 p3 k3 c3 q3 l3 d3 j3 sz3 pz3 kz3 cz3 qz3 lz3 dz3 e3 i4 s4 p4 k4 c4 q4 l4 d4 j4 sz4 pz4 kz4 cz4 qz4 lz4 dz4 e4 hW' hS1 hS2 => sless_any i3 s3 p3 k3 c3 q3 l3 d3 j3 sz3 pz3 kz3 cz3 qz3 lz3 dz3 e3 i4 s4 p4 k4 c4 q4 l4 d4 j4 sz4 pz4 kz4 cz4 qz4 lz4 dz4 e4 (srd (a, b, x1, y1)) (srd (a', b', x2, y2)) W' hS1 hS2
    ⟨(rdE_ok (.inr rfl) h1).le (by omega), (rdE_ok (.inl rfl) h2).le (by omega)⟩ ⟨(rdE_ok (.inr rfl) h3).le (by omega), (rdE_ok (.inl rfl) h4).le (by omega)⟩))
 obtain ⟨D, hD⟩ : ∃ D, D = b2val true sless (a, b, x1, y1) (a', b', x2, y2) := ⟨_, rfl⟩
 obtain ⟨c, hc⟩ : ∃ D, D = b2code true sless (a, b, x1, y1) (a', b', x2, y2) := ⟨_, rfl⟩
 rw [← hD, ← hc] at HC ⊢
 clear ha hb ha' hb' ht hD hc
 go_enter Tryz.func21, Tryz.ntmps21
 go_wp2_with fail
 have HV := hid (pre3 w [.bool s1, .slice p1 k1 c1, .slice q1 l1 d1, .bool sz1, .slice pz1 kz1 cz1, .slice qz1 lz1 dz1, .bool x1, .bool y1] [.bool s2, .slice p2 k2 c2, .slice q2 l2 d2, .bool sz2, .slice pz2 kz2 cz2, .slice qz2 lz2 dz2, .bool x2, .bool y2] [.bool false, .slice none 0 0, .slice none 0 0, .bool false, .slice none 0 0, .slice none 0 0, .bool false, .bool false] 26 26 26 nd8 nd8 nd8)
 generalize ((w.alloc (.cells #[.bool s1, .slice p1 k1 c1, .slice q1 l1 d1, .bool sz1, .slice pz1 kz1 cz1, .slice qz1 lz1 dz1, .bool x1, .bool y1] 26)).alloc (.cells #[.bool s2, .slice p2 k2 c2, .slice q2 l2 d2, .bool sz2, .slice pz2 kz2 cz2, .slice qz2 lz2 dz2, .bool x2, .bool y2] 26)).alloc (.cells #[.bool false, .slice none 0 0, .slice none 0 0, .bool false, .slice none 0 0, .slice none 0 0, .bool false, .bool false] 26) = W0 at *
 refine (HC.out _ HV.out.2.2.2).mono ?_
 rintro e w1 ⟨s5, p5, k5, c5, q5, l5, d5, sz5, pz5, kz5, cz5, qz5, lz5, dz5, x5, y5, rfl, hG, hB1⟩
 have HE := hid (And.intro (HV.out.2.2.1.below hB1) (HV.out.2.2.2.trans (hB1.mono HV.out.2.2.2.size)))
 clear hB1
 obtain ⟨g0, g1, g2, g3, g4, g5, g6, g7, f0, f1, f2, f3, f4, f5, f6, f7⟩ := HE.out.1.cells8
 go_wp2_with fail
 exact iMin_ret rfl rfl (HE.out.1.stores [.bool s5, .slice p5 k5 c5, .slice q5 l5 d5, .bool sz5, .slice pz5 kz5 cz5, .slice qz5 lz5 dz5, .bool x5, .bool y5] rfl nd8) ⟨s5, p5, k5, c5, q5, l5, d5, sz5, pz5, kz5, cz5, qz5, lz5, dz5, x5, y5, rfl, hid (GRep.stores (k := 0) (l := [.bool s5, .slice p5 k5 c5, .slice q5 l5 d5, .bool sz5, .slice pz5 kz5 cz5, .slice qz5 lz5 dz5, .bool x5, .bool y5]) hG.out HE.out.1 nd8), Below.stores (k := 0) (l := [.bool s5, .slice p5 k5 c5, .slice q5 l5 d5, .bool sz5, .slice pz5 kz5 cz5, .slice qz5 lz5 dz5, .bool x5, .bool y5]) HE.out.2 (by omega)⟩
theorem enter_smost (args : Array Value) (w : World) : (callFunc 62 args).run Tryz.prog w = .ok (.enter 62 args) w := call_enter Tryz.func62 (by kernel_rfl) rfl args w
theorem iMax_ret {W : World} {B : Nat} {a0 a1 a2 a3 a4 a5 a6 a7 ev : Value} {tm : Array Value} {R : Ending → World → Prop} (h2 : tm[4]?.getD undef = .pointer (some ⟨B, 0, none⟩)) (h3 : tm[5]?.getD undef = ev) (hV : Box W B #[a0, a1, a2, a3, a4, a5, a6, a7]) (hR : R (.returned (.tuple #[.agg #[a0, a1, a2, a3, a4, a5, a6, a7], ev])) W) :
  bodyPost Tryz.prog Tryz.f23 R .ret { tmps := tm, defers := [] } W := by
 obtain ⟨g0, g1, g2, g3, g4, g5, g6, g7, _⟩ := hV.cells8
 exact bodyPost_ret (v := .tuple #[.agg #[a0, a1, a2, a3, a4, a5, a6, a7], ev]) (by simp [results, Tryz.results23, go_sem, h2, h3, g0, g1, g2, g3, g4, g5, g6, g7]) rfl hR
theorem iMax_any (s1 : Bool) (p1 : Option Addr) (k1 c1 : Nat) (q1 : Option Addr) (l1 d1 : Nat) (sz1 : Bool) (pz1 : Option Addr) (kz1 cz1 : Nat) (qz1 : Option Addr) (lz1 dz1 : Nat) (x1 : Bool) (y1 : Bool) (s2 : Bool) (p2 : Option Addr) (k2 c2 : Nat) (q2 : Option Addr) (l2 d2 : Nat) (sz2 : Bool) (pz2 : Option Addr) (kz2 cz2 : Nat) (qz2 : Option Addr) (lz2 dz2 : Nat) (x2 : Bool) (y2 : Bool) (a b a' b' : Bool × Nat × Nat) (w : World) (ha : NRep w (.agg #[.bool s1, .slice p1 k1 c1, .slice q1 l1 d1]) a) (hb : NRep w (.agg #[.bool sz1, .slice pz1 kz1 cz1, .slice qz1 lz1 dz1]) b) (ha' : NRep w (.agg #[.bool s2, .slice p2 k2 c2, .slice q2 l2 d2]) a') (hb' : NRep w (.agg #[.bool sz2, .slice pz2 kz2 cz2, .slice qz2 lz2 dz2]) b') (ht : TabOk w) :
  Calls Tryz.prog 23 #[.agg #[.bool s1, .slice p1 k1 c1, .slice q1 l1 d1, .bool sz1, .slice pz1 kz1 cz1, .slice qz1 lz1 dz1, .bool x1, .bool y1], .agg #[.bool s2, .slice p2 k2 c2, .slice q2 l2 d2, .bool sz2, .slice pz2 kz2 cz2, .slice qz2 lz2 dz2, .bool x2, .bool y2]] w fun e w' => ∃ s5 p5 k5 c5 q5 l5 d5 sz5 pz5 kz5 cz5 qz5 lz5 dz5 x5 y5, e = .returned (.tuple #[.agg #[.bool s5, .slice p5 k5 c5, .slice q5 l5 d5, .bool sz5, .slice pz5 kz5 cz5, .slice qz5 lz5 dz5, .bool x5, .bool y5], .int .i64 (b2code true smost (a, b, x1, y1) (a', b', x2, y2))]) ∧ Hid (GRep w' (.agg #[.bool s5, .slice p5 k5 c5, .slice q5 l5 d5, .bool sz5, .slice pz5 kz5 cz5, .slice qz5 lz5 dz5, .bool x5, .bool y5]) (b2val true smost (a, b, x1, y1) (a', b', x2, y2))) ∧ Below w.heap.size w w' := by
 have HC := hid (fun (W : World) (hW : Below w.heap.size w W) =>
  both_gen s1 p1 k1 c1 q1 l1 d1 sz1 pz1 kz1 cz1 qz1 lz1 dz1 x1 y1 s2 p2 k2 c2 q2 l2 d2 sz2 pz2 kz2 cz2 qz2 lz2 dz2 x2 y2 true 62 #[] smost a b a' b' W (ha.below hW) (hb.below hW) (ha'.below hW) (hb'.below hW) (ht.below hW) enter_smost
   (fun _ h1 h2 h3 h4 _ _ => ⟨⟨(((rdE_ok (.inr rfl) h1).maxi (rdE_ok (.inr rfl) h3))).le (by omega), (((rdE_ok (.inl rfl) h2).maxi (rdE_ok (.inl rfl) h4))).le (by omega)⟩, rfl⟩)
   (fun _ h1 h2 h3 h4 _ _ W' i3 s3 p3 k3 c3 q3 l3 d3 j3 sz3 pz3 kz3 cz3 qz3 lz3 dz3 e3 i4 s4 p4 k4 c4 q4 l4 d4 j4 sz4 pz4 kz4 cz4 qz4 lz4 dz4 e4 hW' hS1 hS2 => smost_any i3 s3 p3 k3 c3 q3 l3 d3 j3 sz3 pz3 kz3 cz3 qz3 lz3 dz3 e3 i4 s4 p4 k4 c4 q4 l4 d4 j4 sz4 pz4 kz4 cz4 qz4 lz4 dz4 e4 (srd (a, b, x1, y1)) (srd (a', b', x2, y2)) W' hS1 hS2
    ⟨(rdE_ok (.inr rfl) h1).le (by omega), (rdE_ok (.inl rfl) h2).le (by omega)⟩ ⟨(rdE_ok (.inr rfl) h3).le (by omega), (rdE_ok (.inl rfl) h4).le (by omega)⟩))
 obtain ⟨D, hD⟩ : ∃ D, D = b2val true smost (a, b, x1, y1) (a', b', x2, y2) := ⟨_, rfl⟩
 obtain ⟨c, hc⟩ : ∃ D, D = b2code true smost (a, b, x1, y1) (a', b', x2, y2) := ⟨_, rfl⟩
 rw [← hD, ← hc] at HC ⊢
 clear ha hb ha' hb' ht hD hc
 go_enter Tryz.func23, Tryz.ntmps23
 go_wp2_with fail
 have HV := hid (pre3 w [.bool s1, .slice p1 k1 c1, .slice q1 l1 d1, .bool sz1, .slice pz1 kz1 cz1, .slice qz1 lz1 dz1, .bool x1, .bool y1] [.bool s2, .slice p2 k2 c2, .slice q2 l2 d2, .bool sz2, .slice pz2 kz2 cz2, .slice qz2 lz2 dz2, .bool x2, .bool y2] [.bool false, .slice none 0 0, .slice none 0 0, .bool false, .slice none 0 0, .slice none 0 0, .bool false, .bool false] 26 26 26 nd8 nd8 nd8)
 generalize ((w.alloc (.cells #[.bool s1, .slice p1 k1 c1, .slice q1 l1 d1, .bool sz1, .slice pz1 kz1 cz1, .slice qz1 lz1 dz1, .bool x1, .bool y1] 26)).alloc (.cells #[.bool s2, .slice p2 k2 c2, .slice q2 l2 d2, .bool sz2, .slice pz2 kz2 cz2, .slice qz2 lz2 dz2, .bool x2, .bool y2] 26)).alloc (.cells #[.bool false, .slice none 0 0, .slice none 0 0, .bool false, .slice none 0 0, .slice none 0 0, .bool false, .bool false] 26) = W0 at *
 refine (HC.out _ HV.out.2.2.2).mono ?_
 rintro e w1 ⟨s5, p5, k5, c5, q5, l5, d5, sz5, pz5, kz5, cz5, qz5, lz5, dz5, x5, y5, rfl, hG, hB1⟩
 have HE := hid (And.intro (HV.out.2.2.1.below hB1) (HV.out.2.2.2.trans (hB1.mono HV.out.2.2.2.size)))
 clear hB1
 obtain ⟨g0, g1, g2, g3, g4, g5, g6, g7, f0, f1, f2, f3, f4, f5, f6, f7⟩ := HE.out.1.cells8
 go_wp2_with fail
 exact iMax_ret rfl rfl (HE.out.1.stores [.bool s5, .slice p5 k5 c5, .slice q5 l5 d5, .bool sz5, .slice pz5 kz5 cz5, .slice qz5 lz5 dz5, .bool x5, .bool y5] rfl nd8) ⟨s5, p5, k5, c5, q5, l5, d5, sz5, pz5, kz5, cz5, qz5, lz5, dz5, x5, y5, rfl, hid (GRep.stores (k := 0) (l := [.bool s5, .slice p5 k5 c5, .slice q5 l5 d5, .bool sz5, .slice pz5 kz5 cz5, .slice qz5 lz5 dz5, .bool x5, .bool y5]) hG.out HE.out.1 nd8), Below.stores (k := 0) (l := [.bool s5, .slice p5 k5 c5, .slice q5 l5 d5, .bool sz5, .slice pz5 kz5 cz5, .slice qz5 lz5 dz5, .bool x5, .bool y5]) HE.out.2 (by omega)⟩
end Go.Proofs.YtimjoejkjgklaaaGreatDoor
namespace Go.Proofs.YtimjoejkjgklaaaGreatDoor
open Go.RowKit Dg
def jcode2 (a a' : (Bool × Nat × Nat) × (Bool × Nat × Nat) × Bool × Bool) : Int := if ilarge a || ilarge a' then 1 else 0
def jval2 (g : (Bool × Nat × Nat) × (Bool × Nat × Nat) × Bool × Bool × Bool → (Bool × Nat × Nat) × (Bool × Nat × Nat) × Bool × Bool × Bool → (Bool × Nat × Nat) × (Bool × Nat × Nat) × Bool × Bool × Bool) (a a' : (Bool × Nat × Nat) × (Bool × Nat × Nat) × Bool × Bool) : (Bool × Nat × Nat) × (Bool × Nat × Nat) × Bool × Bool := if ilarge a || ilarge a' then gzero else japi (g (jof a) (jof a'))
def jlow (r t : (Bool × Nat × Nat) × (Bool × Nat × Nat) × Bool × Bool × Bool) : (Bool × Nat × Nat) × (Bool × Nat × Nat) × Bool × Bool × Bool := if r.2.2.2.2 || t.2.2.2.2 then jnone else (if r.2.2.1 || t.2.2.1 then (false, 0, 0) else qmin r.1 t.1, if r.2.2.2.1 then t.2.1 else if t.2.2.2.1 then r.2.1 else qmin r.2.1 t.2.1, r.2.2.1 || t.2.2.1, r.2.2.2.1 && t.2.2.2.1, false)
def jupp (r t : (Bool × Nat × Nat) × (Bool × Nat × Nat) × Bool × Bool × Bool) : (Bool × Nat × Nat) × (Bool × Nat × Nat) × Bool × Bool × Bool := jminus (jlow (jminus r) (jminus t))
theorem QFit.qmin {s t : Bool × Nat × Nat} (hs : QFit s) (ht : QFit t) : QFit (qmin s t) := by unfold Go.Proofs.YtimjoejkjgklaaaGreatDoor.qmin; split <;> assumption
theorem QFit.qmax {s t : Bool × Nat × Nat} (hs : QFit s) (ht : QFit t) : QFit (qmax s t) := by unfold Go.Proofs.YtimjoejkjgklaaaGreatDoor.qmax; split <;> assumption
theorem ecmp_fin2 (a b : Bool × Nat × Nat) : ecmp (0, a) (0, b) = fcmp a b := by unfold ecmp; simp
theorem emin_fin2 (a b : Bool × Nat × Nat) : emin (0, a) (0, b) = (0, qmin a b) := by
 unfold emin Go.Proofs.YtimjoejkjgklaaaGreatDoor.qmin
 rw [ecmp_fin2]
 split <;> rfl
theorem emax_fin2 (a b : Bool × Nat × Nat) : emax (0, a) (0, b) = (0, qmax a b) := by
 unfold emax Go.Proofs.YtimjoejkjgklaaaGreatDoor.qmax
 rw [ecmp_fin2]
 split <;> rfl
def SimQ (S : (Int × Bool × Nat × Nat) × (Int × Bool × Nat × Nat) × Bool) (J : (Bool × Nat × Nat) × (Bool × Nat × Nat) × Bool × Bool × Bool) : Prop := ∃ A B x y, (x = false → QFit A) ∧ (y = false → QFit B) ∧ S = (if x then (-1, false, 0, 0) else (0, A), if y then (1, false, 0, 0) else (0, B), false) ∧ J = (if x then (false, 0, 0) else A, if y then (false, 0, 0) else B, x, y, false)
theorem SimQ.of {a b : Bool × Nat × Nat} {x y : Bool} (h1 : large a.2.1 a.2.2 = false) (h2 : large b.2.1 b.2.2 = false) (he : (srd (a, b, x, y)).2.2 = false) : SimQ (srd (a, b, x, y)) (jof (a, b, x, y)) := by
 refine ⟨fr a, fr b, x, y, fun _ => QFit.of h1, fun _ => QFit.of h2, ?_, jof_in he⟩
 have e : srd (a, b, x, y) = ((srd (a, b, x, y)).1, (srd (a, b, x, y)).2.1, (srd (a, b, x, y)).2.2) := rfl
 rw [e, he]
 rfl
theorem SimQ.api {S : (Int × Bool × Nat × Nat) × (Int × Bool × Nat × Nat) × Bool} {J : (Bool × Nat × Nat) × (Bool × Nat × Nat) × Bool × Bool × Bool} (h : SimQ S J) : giv S = japi J ∧ sbig S = false := by
 obtain ⟨A, B, x, y, hA, hB, rfl, rfl⟩ := h
 have ebA : x = false → ebig (0, A) = false := by
  intro hx
  show (true && big A.2.1 A.2.2) = false
  exact w64_not_big (hA hx).2.1 (hA hx).2.2
 have ebB : y = false → ebig (0, B) = false := by
  intro hy
  show (true && big B.2.1 B.2.2) = false
  exact w64_not_big (hB hy).2.1 (hB hy).2.2
 cases x <;> cases y
 ·refine ⟨?_, ?_⟩
  ·show (outF A, outF B, false, false) = (jrat A, jrat B, false, false)
   rw [(hA rfl).jrat, (hB rfl).jrat]
  ·show (ebig (0, A) || ebig (0, B)) = false
   rw [ebA rfl, ebB rfl]; rfl
 ·refine ⟨?_, ?_⟩
  ·show (outF A, (false, 0, 0), false, true) = (jrat A, jrat (false, 0, 0), false, true)
   rw [(hA rfl).jrat, jrat_zero]
  ·show (ebig (0, A) || false) = false
   rw [ebA rfl]; rfl
 ·refine ⟨?_, ?_⟩
  ·show ((false, 0, 0), outF B, true, false) = (jrat (false, 0, 0), jrat B, true, false)
   rw [(hB rfl).jrat, jrat_zero]
  ·show (false || ebig (0, B)) = false
   rw [ebB rfl]; rfl
 ·refine ⟨?_, rfl⟩
  show ((false, 0, 0), (false, 0, 0), true, true) = (jrat (false, 0, 0), jrat (false, 0, 0), true, true)
  rw [jrat_zero]
theorem SimQ.less {S T : (Int × Bool × Nat × Nat) × (Int × Bool × Nat × Nat) × Bool} {J K : (Bool × Nat × Nat) × (Bool × Nat × Nat) × Bool × Bool × Bool} (h : SimQ S J) (h' : SimQ T K) : SimQ (sless S T) (jlow J K) := by
 obtain ⟨A, B, x, y, hA, hB, rfl, rfl⟩ := h
 obtain ⟨A', B', x', y', hA', hB', rfl, rfl⟩ := h'
 refine ⟨qmin A A', if y then B' else if y' then B else qmin B B', x || x', y && y', ?_, ?_, ?_, ?_⟩
 ·intro hx
  rw [Bool.or_eq_false_iff] at hx
  exact (hA hx.1).qmin (hA' hx.2)
 ·intro hy
  cases y <;> cases y'
  ·exact (hB rfl).qmin (hB' rfl)
  ·exact hB rfl
  ·exact hB' rfl
  ·exact absurd hy (by decide)
 ·unfold sless
  cases x <;> cases x' <;> cases y <;> cases y'
  all_goals
   simp only [if_true, if_false, Bool.false_eq_true, emin_fin2, Bool.or_false, Bool.or_true, Bool.and_false, Bool.and_true]
   try rfl
 ·cases x <;> cases x' <;> cases y <;> cases y' <;> rfl
theorem fneg_back {A : Bool × Nat × Nat} (h : QFit A) : fneg (fneg A) = A := by
 obtain ⟨⟨s, n, d, hd, rfl⟩, _⟩ := h
 rw [fneg_frac hd, fneg_frac hd, Bool.not_not]
theorem fcmp_flip (a b : Bool × Nat × Nat) : fcmp (fneg a) (fneg b) = fcmp b a := by
 unfold fcmp
 rw [sv_fneg, sv_fneg]
 show cmpI (-sv a.1 a.2.1 * b.2.2) (-sv b.1 b.2.1 * a.2.2) = cmpI (sv b.1 b.2.1 * a.2.2) (sv a.1 a.2.1 * b.2.2)
 rw [Int.neg_mul, Int.neg_mul]
 unfold cmpI
 generalize sv a.1 a.2.1 * (b.2.2 : Int) = u
 generalize sv b.1 b.2.1 * (a.2.2 : Int) = v
 by_cases h1 : v < u
 ·rw [if_pos (by omega : -u < -v), if_pos h1]
 ·rw [if_neg (by omega : ¬ -u < -v), if_neg h1]
  by_cases h2 : u < v
  ·rw [if_pos (by omega : -v < -u), if_pos h2]
  ·rw [if_neg (by omega : ¬ -v < -u), if_neg h2]
theorem fcmp_swap_pos (a b : Bool × Nat × Nat) : (0 < fcmp a b) ↔ (fcmp b a < 0) := by
 unfold fcmp cmpI
 generalize sv a.1 a.2.1 * (b.2.2 : Int) = u
 generalize sv b.1 b.2.1 * (a.2.2 : Int) = v
 by_cases h1 : u < v
 ·rw [if_pos h1]
  by_cases h2 : v < u
  ·omega
  ·rw [if_neg h2, if_pos h1]; omega
 ·rw [if_neg h1]
  by_cases h2 : v < u
  ·rw [if_pos h2]; omega
  ·rw [if_neg h2, if_neg h1]; omega
theorem qmin_neg {A A' : Bool × Nat × Nat} (hA : QFit A) (hA' : QFit A') : fneg (qmin (fneg A) (fneg A')) = qmax A A' := by
 unfold Go.Proofs.YtimjoejkjgklaaaGreatDoor.qmin Go.Proofs.YtimjoejkjgklaaaGreatDoor.qmax
 rw [fcmp_flip]
 by_cases h : 0 < fcmp A' A
 ·rw [if_pos h, if_pos ((fcmp_swap_pos _ _).1 h), fneg_back hA']
 ·rw [if_neg h, if_neg (fun h2 => h ((fcmp_swap_pos _ _).2 h2)), fneg_back hA]
theorem SimQ.most {S T : (Int × Bool × Nat × Nat) × (Int × Bool × Nat × Nat) × Bool} {J K : (Bool × Nat × Nat) × (Bool × Nat × Nat) × Bool × Bool × Bool} (h : SimQ S J) (h' : SimQ T K) : SimQ (smost S T) (jupp J K) := by
 obtain ⟨A, B, x, y, hA, hB, rfl, rfl⟩ := h
 obtain ⟨A', B', x', y', hA', hB', rfl, rfl⟩ := h'
 refine ⟨if x then A' else if x' then A else qmax A A', qmax B B', x && x', y || y', ?_, ?_, ?_, ?_⟩
 ·intro hy
  cases x <;> cases x'
  ·exact (hA rfl).qmax (hA' rfl)
  ·exact hA rfl
  ·exact hA' rfl
  ·exact absurd hy (by decide)
 ·intro hx
  rw [Bool.or_eq_false_iff] at hx
  exact (hB hx.1).qmax (hB' hx.2)
 ·unfold smost
  cases x <;> cases x' <;> cases y <;> cases y'
  all_goals
   simp only [if_true, if_false, Bool.false_eq_true, emax_fin2, Bool.or_false, Bool.or_true, Bool.and_false, Bool.and_true]
   try rfl
 ·have lo : x = false → x' = false → fneg (qmin (fneg A) (fneg A')) = qmax A A' := fun hx hx' => qmin_neg (hA hx) (hA' hx')
  have hi : y = false → y' = false → fneg (qmin (fneg B) (fneg B')) = qmax B B' := fun hy hy' => qmin_neg (hB hy) (hB' hy')
  have nA : x = false → fneg (fneg A) = A := fun hx => fneg_back (hA hx)
  have nA' : x' = false → fneg (fneg A') = A' := fun hx => fneg_back (hA' hx)
  clear hA hB hA' hB'
  unfold jupp jlow jminus
  cases x <;> cases x' <;> cases y <;> cases y'
  all_goals
   simp only [if_true, if_false, Bool.false_eq_true, Bool.or_false, Bool.or_true, Bool.and_false, Bool.and_true, fneg_zero, lo, hi, nA, nA', Bool.or_self]
theorem JGood.shape {r : (Bool × Nat × Nat) × (Bool × Nat × Nat) × Bool × Bool × Bool} (h : JGood r) : r = jnone ∨ ∃ A B x y, (x = false → QFit A) ∧ (y = false → QFit B) ∧ (x = false → y = false → fcmp A B ≤ 0) ∧ r = (if x then (false, 0, 0) else A, if y then (false, 0, 0) else B, x, y, false) := by
 rcases h with h | ⟨he, hl, hh, ho⟩
 ·exact .inl h
 ·obtain ⟨A, B, x, y, e⟩ := r
  have he' : e = false := he
  subst he'
  refine .inr ⟨A, B, x, y, ?_, ?_, ?_, ?_⟩
  ·intro hx
   rcases hl with ⟨g, _⟩ | ⟨_, g⟩
   ·exact absurd (hx.symm.trans g) (by decide)
   ·exact g
  ·intro hx
   rcases hh with ⟨g, _⟩ | ⟨_, g⟩
   ·exact absurd (hx.symm.trans g) (by decide)
   ·exact g
  ·exact ho
  ·rcases hl with ⟨g, g'⟩ | ⟨g, _⟩ <;> rcases hh with ⟨k, k'⟩ | ⟨k, _⟩
   all_goals
    simp only at g k
    subst g k
    try simp only at g'
    try simp only at k'
    try subst g'
    try subst k'
    rfl
theorem fcmp_selfM (t : Bool × Nat × Nat) : fcmp t t = 0 := by unfold fcmp cmpI; simp
theorem qmin_l {a b : Bool × Nat × Nat} (_ha : QFit a) (_hb : QFit b) : fcmp (qmin a b) a ≤ 0 := by
 unfold Go.Proofs.YtimjoejkjgklaaaGreatDoor.qmin
 split
 case isTrue h => omega
 case isFalse h => rw [fcmp_selfM]; omega
theorem qmin_r {a b : Bool × Nat × Nat} (_ha : QFit a) (_hb : QFit b) : fcmp (qmin a b) b ≤ 0 := by
 unfold Go.Proofs.YtimjoejkjgklaaaGreatDoor.qmin
 split
 case isTrue h => rw [fcmp_selfM]; omega
 case isFalse h =>
  have := fcmp_swap_pos a b
  omega
theorem qmin_ge {a b c : Bool × Nat × Nat} (h : fcmp c a ≤ 0) (h' : fcmp c b ≤ 0) : fcmp c (qmin a b) ≤ 0 := by
 unfold Go.Proofs.YtimjoejkjgklaaaGreatDoor.qmin
 split <;> assumption
theorem fle3 {a b c : Bool × Nat × Nat} (ha : QFit a) (hb : QFit b) (hc : QFit c) (h : fcmp a b ≤ 0) (h' : fcmp b c ≤ 0) : fcmp a c ≤ 0 := fcmp_trans ha.1.pos hb.1.pos hc.1.pos h h'
theorem jlow_good {J K : (Bool × Nat × Nat) × (Bool × Nat × Nat) × Bool × Bool × Bool} (h : JGood J) (h' : JGood K) : JGood (jlow J K) := by
 rcases h.shape with rfl | ⟨A, B, x, y, hA, hB, ho, rfl⟩
 ·exact .inl rfl
 ·rcases h'.shape with rfl | ⟨A', B', x', y', hA', hB', ho', rfl⟩
  ·refine .inl ?_
   unfold jlow
   rw [show (jnone : (Bool × Nat × Nat) × (Bool × Nat × Nat) × Bool × Bool × Bool).2.2.2.2 = true from rfl, Bool.or_true]
   rfl
  ·clear h h'
   have q1 : x = false → x' = false → QFit (qmin A A') := fun u v => (hA u).qmin (hA' v)
   have q2 : y = false → y' = false → QFit (qmin B B') := fun u v => (hB u).qmin (hB' v)
   have o1 : x = false → x' = false → y' = false → fcmp (qmin A A') B' ≤ 0 := fun u v t => fle3 (q1 u v) (hA' v) (hB' t) (qmin_r (hA u) (hA' v)) (ho' v t)
   have o2 : x = false → x' = false → y = false → fcmp (qmin A A') B ≤ 0 := fun u v t => fle3 (q1 u v) (hA u) (hB t) (qmin_l (hA u) (hA' v)) (ho u t)
   have o3 : x = false → x' = false → y = false → y' = false → fcmp (qmin A A') (qmin B B') ≤ 0 := fun u v t t' => qmin_ge (o2 u v t) (o1 u v t')
   refine .inr ⟨rfl, ?_, ?_, ?_⟩
   ·cases x <;> cases x'
    ·exact .inr ⟨rfl, q1 rfl rfl⟩
    ·exact .inl ⟨rfl, rfl⟩
    ·exact .inl ⟨rfl, rfl⟩
    ·exact .inl ⟨rfl, rfl⟩
   ·cases y <;> cases y'
    ·exact .inr ⟨rfl, q2 rfl rfl⟩
    ·exact .inr ⟨rfl, hB rfl⟩
    ·exact .inr ⟨rfl, hB' rfl⟩
    ·exact .inl ⟨rfl, rfl⟩
   ·intro u v
    cases x <;> cases x'
    ·cases y <;> cases y'
     ·exact o3 rfl rfl rfl rfl
     ·exact o2 rfl rfl rfl
     ·exact o1 rfl rfl rfl
     ·exact Bool.noConfusion (show true = false from v)
    ·exact Bool.noConfusion (show true = false from u)
    ·exact Bool.noConfusion (show true = false from u)
    ·exact Bool.noConfusion (show true = false from u)
theorem jupp_good {J K : (Bool × Nat × Nat) × (Bool × Nat × Nat) × Bool × Bool × Bool} (h : JGood J) (h' : JGood K) : JGood (jupp J K) := (jlow_good h.neg h'.neg).neg
structure JOp (f : (Int × Bool × Nat × Nat) × (Int × Bool × Nat × Nat) × Bool → (Int × Bool × Nat × Nat) × (Int × Bool × Nat × Nat) × Bool → (Int × Bool × Nat × Nat) × (Int × Bool × Nat × Nat) × Bool) (g : (Bool × Nat × Nat) × (Bool × Nat × Nat) × Bool × Bool × Bool → (Bool × Nat × Nat) × (Bool × Nat × Nat) × Bool × Bool × Bool → (Bool × Nat × Nat) × (Bool × Nat × Nat) × Bool × Bool × Bool) : Prop where
 sim : ∀ {S T : (Int × Bool × Nat × Nat) × (Int × Bool × Nat × Nat) × Bool} {J K : (Bool × Nat × Nat) × (Bool × Nat × Nat) × Bool × Bool × Bool}, SimQ S J → SimQ T K → giv (f S T) = japi (g J K) ∧ sbig (f S T) = false
 e1 : ∀ K : (Bool × Nat × Nat) × (Bool × Nat × Nat) × Bool × Bool × Bool, g jnone K = jnone
 e2 : ∀ J : (Bool × Nat × Nat) × (Bool × Nat × Nat) × Bool × Bool × Bool, g J jnone = jnone
 good : ∀ {J K : (Bool × Nat × Nat) × (Bool × Nat × Nat) × Bool × Bool × Bool}, JGood J → JGood K → JGood (g J K)
theorem jop_same {f : (Int × Bool × Nat × Nat) × (Int × Bool × Nat × Nat) × Bool → (Int × Bool × Nat × Nat) × (Int × Bool × Nat × Nat) × Bool → (Int × Bool × Nat × Nat) × (Int × Bool × Nat × Nat) × Bool} {g : (Bool × Nat × Nat) × (Bool × Nat × Nat) × Bool × Bool × Bool → (Bool × Nat × Nat) × (Bool × Nat × Nat) × Bool × Bool × Bool → (Bool × Nat × Nat) × (Bool × Nat × Nat) × Bool × Bool × Bool} (hR : JOp f g) (a b a' b' : Bool × Nat × Nat) (x y x' y' : Bool) :
  b2code true f (a, b, x, y) (a', b', x', y') = jcode2 (a, b, x, y) (a', b', x', y') ∧ b2val true f (a, b, x, y) (a', b', x', y') = jval2 g (a, b, x, y) (a', b', x', y') := by
 unfold b2code b2val jcode2 jval2
 cases h : (ilarge (a, b, x, y) || ilarge (a', b', x', y'))
 ·rw [Bool.or_eq_false_iff] at h
  have hl1 : (large a.2.1 a.2.2 || large b.2.1 b.2.2) = false := h.1
  have hl2 : (large a'.2.1 a'.2.2 || large b'.2.1 b'.2.2) = false := h.2
  rw [Bool.or_eq_false_iff] at hl1 hl2
  cases he : (srd (a, b, x, y)).2.2
  ·cases he' : (srd (a', b', x', y')).2.2
   ·have hs := hR.sim (SimQ.of hl1.1 hl1.2 he) (SimQ.of hl2.1 hl2.2 he')
    rw [hs.1, hs.2]
    exact ⟨rfl, rfl⟩
   ·rw [jof_out he', hR.e2]
    refine ⟨rfl, ?_⟩
    show giv (srd (a', b', x', y')) = _
    rw [giv_srd hl2.1 hl2.2, jof_out he']
    rfl
  ·rw [jof_out he, hR.e1]
   refine ⟨rfl, ?_⟩
   show giv (srd (a, b, x, y)) = _
   rw [giv_srd hl1.1 hl1.2, jof_out he]
   rfl
 ·exact ⟨rfl, rfl⟩
theorem jcode2_small {a b a' b' : Bool × Nat × Nat} {x y x' y' : Bool} (h : jcode2 (a, b, x, y) (a', b', x', y') = 0) : (ilarge (a, b, x, y) || ilarge (a', b', x', y')) = false := by
 unfold jcode2 at h
 cases hl : (ilarge (a, b, x, y) || ilarge (a', b', x', y'))
 ·rfl
 ·rw [hl] at h; exact absurd h (by decide)
theorem jop_ok {g : (Bool × Nat × Nat) × (Bool × Nat × Nat) × Bool × Bool × Bool → (Bool × Nat × Nat) × (Bool × Nat × Nat) × Bool × Bool × Bool → (Bool × Nat × Nat) × (Bool × Nat × Nat) × Bool × Bool × Bool} (hg : ∀ {J K : (Bool × Nat × Nat) × (Bool × Nat × Nat) × Bool × Bool × Bool}, JGood J → JGood K → JGood (g J K)) {a b a' b' : Bool × Nat × Nat} {x y x' y' : Bool} (h : jcode2 (a, b, x, y) (a', b', x', y') = 0) : ∃ r, JGood r ∧ jval2 g (a, b, x, y) (a', b', x', y') = japi r := by
 have hl := jcode2_small h
 have hv : jval2 g (a, b, x, y) (a', b', x', y') = japi (g (jof (a, b, x, y)) (jof (a', b', x', y'))) := by unfold jval2; rw [hl]; rfl
 rw [Bool.or_eq_false_iff] at hl
 have hl1 : (large a.2.1 a.2.2 || large b.2.1 b.2.2) = false := hl.1
 have hl2 : (large a'.2.1 a'.2.2 || large b'.2.1 b'.2.2) = false := hl.2
 rw [Bool.or_eq_false_iff] at hl1 hl2
 exact ⟨_, hg (JGood.of hl1.1 hl1.2) (JGood.of hl2.1 hl2.2), hv⟩
theorem jop_err {g : (Bool × Nat × Nat) × (Bool × Nat × Nat) × Bool × Bool × Bool → (Bool × Nat × Nat) × (Bool × Nat × Nat) × Bool × Bool × Bool → (Bool × Nat × Nat) × (Bool × Nat × Nat) × Bool × Bool × Bool} (a a' : (Bool × Nat × Nat) × (Bool × Nat × Nat) × Bool × Bool) (h : jcode2 a a' ≠ 0) : jval2 g a a' = gzero := by
 unfold jcode2 at h
 unfold jval2
 split
 ·rfl
 case isFalse h1 => rw [if_neg h1] at h; exact absurd rfl h
theorem jnone_or (J : (Bool × Nat × Nat) × (Bool × Nat × Nat) × Bool × Bool × Bool) : (J.2.2.2.2 || (jnone : (Bool × Nat × Nat) × (Bool × Nat × Nat) × Bool × Bool × Bool).2.2.2.2) = true := by rw [show (jnone : (Bool × Nat × Nat) × (Bool × Nat × Nat) × Bool × Bool × Bool).2.2.2.2 = true from rfl, Bool.or_true]
theorem jop_less : JOp sless jlow := ⟨fun h h' => (h.less h').api, fun _ => rfl, fun J => by unfold jlow; rw [jnone_or]; rfl, jlow_good⟩
theorem jop_most : JOp smost jupp := ⟨fun h h' => (h.most h').api, fun _ => rfl, fun J => by
 show jminus (jlow (jminus J) jnone) = jnone
 have e : jlow (jminus J) jnone = jnone := by unfold jlow; rw [jnone_or]; rfl
 rw [e]; rfl, jupp_good⟩
end Go.Proofs.YtimjoejkjgklaaaGreatDoor
