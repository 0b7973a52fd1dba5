/- Intervals of the program: Canon, Between, Point, Whole. -/
import Derived.Test.YtpdpabpdejmdbaaGreatDoorMkI
namespace Go.Proofs.YtpdpabpdejmdbaaGreatDoor
open Go.RowKit Dg

theorem iCanon_ret {W : World} {B : Nat} {a0 a1 a2 a3 a4 a5 a6 a7 ev : Value} {tm : Array Value} {R : Ending → World → Prop} (h2 : tm[2]?.getD undef = .pointer (some ⟨B, 0, none⟩)) (h3 : tm[3]?.getD undef = ev) (hV : Box W B #[a0, a1, a2, a3, a4, a5, a6, a7]) (hR : R (.returned (.tuple #[.agg #[a0, a1, a2, a3, a4, a5, a6, a7], ev])) W) :
    bodyPost Tryz.prog Tryz.f30 R .ret { tmps := tm, defers := [] } W := by
  obtain ⟨g0, g1, g2, g3, g4, g5, g6, g7, _⟩ := hV.cells8
  exact bodyPost_ret (v := .tuple #[.agg #[a0, a1, a2, a3, a4, a5, a6, a7], ev]) (by simp [results, Tryz.results30, go_sem, h2, h3, g0, g1, g2, g3, g4, g5, g6, g7]) rfl hR
theorem iBetween_ret {W : World} {B : Nat} {a0 a1 a2 a3 a4 a5 a6 a7 ev : Value} {tm : Array Value} {R : Ending → World → Prop} (h2 : tm[4]?.getD undef = .pointer (some ⟨B, 0, none⟩)) (h3 : tm[5]?.getD undef = ev) (hV : Box W B #[a0, a1, a2, a3, a4, a5, a6, a7]) (hR : R (.returned (.tuple #[.agg #[a0, a1, a2, a3, a4, a5, a6, a7], ev])) W) :
    bodyPost Tryz.prog Tryz.f21 R .ret { tmps := tm, defers := [] } W := by
  obtain ⟨g0, g1, g2, g3, g4, g5, g6, g7, _⟩ := hV.cells8
  exact bodyPost_ret (v := .tuple #[.agg #[a0, a1, a2, a3, a4, a5, a6, a7], ev]) (by simp [results, Tryz.results21, go_sem, h2, h3, g0, g1, g2, g3, g4, g5, g6, g7]) rfl hR
theorem iPoint_ret {W : World} {B : Nat} {a0 a1 a2 a3 a4 a5 a6 a7 ev : Value} {tm : Array Value} {R : Ending → World → Prop} (h2 : tm[2]?.getD undef = .pointer (some ⟨B, 0, none⟩)) (h3 : tm[3]?.getD undef = ev) (hV : Box W B #[a0, a1, a2, a3, a4, a5, a6, a7]) (hR : R (.returned (.tuple #[.agg #[a0, a1, a2, a3, a4, a5, a6, a7], ev])) W) :
    bodyPost Tryz.prog Tryz.f19 R .ret { tmps := tm, defers := [] } W := by
  obtain ⟨g0, g1, g2, g3, g4, g5, g6, g7, _⟩ := hV.cells8
  exact bodyPost_ret (v := .tuple #[.agg #[a0, a1, a2, a3, a4, a5, a6, a7], ev]) (by simp [results, Tryz.results19, go_sem, h2, h3, g0, g1, g2, g3, g4, g5, g6, g7]) rfl hR
theorem iWhole_ret {W : World} {B : Nat} {a0 a1 a2 a3 a4 a5 a6 a7 : Value} {tm : Array Value} {R : Ending → World → Prop} (h2 : tm[0]?.getD undef = .pointer (some ⟨B, 0, none⟩)) (hV : Box W B #[a0, a1, a2, a3, a4, a5, a6, a7]) (hR : R (.returned (.agg #[a0, a1, a2, a3, a4, a5, a6, a7])) W) :
    bodyPost Tryz.prog Tryz.f24 R .ret { tmps := tm, defers := [] } W := by
  obtain ⟨g0, g1, g2, g3, g4, g5, g6, g7, _⟩ := hV.cells8
  exact bodyPost_ret (v := .agg #[a0, a1, a2, a3, a4, a5, a6, a7]) (by simp [results, Tryz.results24, go_sem, h2, g0, g1, g2, g3, g4, g5, g6, g7]) rfl hR
set_option maxHeartbeats 2000000 in
set_option maxRecDepth 100000 in
theorem iCanon_any (s1 : Bool) (p1 : Option Addr) (k1 c1 : Nat) (q1 : Option Addr) (l1 d1 : Nat) (sz1 : Bool) (pz1 : Option Addr) (kz1 cz1 : Nat) (qz1 : Option Addr) (lz1 dz1 : Nat) (x1 : Bool) (y1 : Bool) (a b : Bool × Nat × Nat) (w : World) (ha : NRep w (.agg #[.bool s1, .slice p1 k1 c1, .slice q1 l1 d1]) a) (hb : NRep w (.agg #[.bool sz1, .slice pz1 kz1 cz1, .slice qz1 lz1 dz1]) b) (ht : TabOk w) :
    Calls Tryz.prog 30 #[.agg #[.bool s1, .slice p1 k1 c1, .slice q1 l1 d1, .bool sz1, .slice pz1 kz1 cz1, .slice qz1 lz1 dz1, .bool x1, .bool y1]] w fun e w' => ∃ s5 p5 k5 c5 q5 l5 d5 sz5 pz5 kz5 cz5 qz5 lz5 dz5 x5 y5, e = .returned (.tuple #[.agg #[.bool s5, .slice p5 k5 c5, .slice q5 l5 d5, .bool sz5, .slice pz5 kz5 cz5, .slice qz5 lz5 dz5, .bool x5, .bool y5], .int .i64 (icode (a, b, x1, y1))]) ∧ Hid (GRep w' (.agg #[.bool s5, .slice p5 k5 c5, .slice q5 l5 d5, .bool sz5, .slice pz5 kz5 cz5, .slice qz5 lz5 dz5, .bool x5, .bool y5]) (ican (a, b, x1, y1))) ∧ Below w.heap.size w w' := by
  obtain ⟨c, hc⟩ : ∃ r, r = icode (a, b, x1, y1) := ⟨_, rfl⟩
  obtain ⟨D, hD⟩ : ∃ r, r = ican (a, b, x1, y1) := ⟨_, rfl⟩
  rw [← hc, ← hD]
  have HC : Hid (∀ W, Below w.heap.size w W → Calls Tryz.prog 82 #[.agg #[.bool s1, .slice p1 k1 c1, .slice q1 l1 d1, .bool sz1, .slice pz1 kz1 cz1, .slice qz1 lz1 dz1, .bool x1, .bool y1], .func (.func 83) #[] #[]] W fun e w' => ∃ s5 p5 k5 c5 q5 l5 d5 sz5 pz5 kz5 cz5 qz5 lz5 dz5 x5 y5, e = .returned (.tuple #[.agg #[.bool s5, .slice p5 k5 c5, .slice q5 l5 d5, .bool sz5, .slice pz5 kz5 cz5, .slice qz5 lz5 dz5, .bool x5, .bool y5], .int .i64 c]) ∧ Hid (GRep w' (.agg #[.bool s5, .slice p5 k5 c5, .slice q5 l5 d5, .bool sz5, .slice pz5 kz5 cz5, .slice qz5 lz5 dz5, .bool x5, .bool y5]) D) ∧ Below W.heap.size W w') := by
    refine hid fun W hW => ?_
    cases hL : (large a.2.1 a.2.2 || large b.2.1 b.2.2)
    · have hla : ilarge (a, b, x1, y1) = false := hL
      rw [Bool.or_eq_false_iff] at hL
      have ec : c = 0 := by rw [hc]; unfold icode; rw [hla]; rfl
      have eD : D = giv (srd (a, b, x1, y1)) := by rw [hD]; unfold ican; rw [hla]; rfl
      rw [ec, eD]
      exact askI_ok s1 p1 k1 c1 q1 l1 d1 sz1 pz1 kz1 cz1 qz1 lz1 dz1 x1 y1 _ #[] a b _ W (ha.below hW) (hb.below hW) hL.1 hL.2 (ht.below hW) enter_siv fun W4 i3 s3 p3 k3 c3 q3 l3 d3 j3 sz3 pz3 kz3 cz3 qz3 lz3 dz3 e3 hW4 hS => siv_rd i3 s3 p3 k3 c3 q3 l3 d3 j3 sz3 pz3 kz3 cz3 qz3 lz3 dz3 e3 a b x1 y1 W4 hS hL.1 hL.2
    · have hla : ilarge (a, b, x1, y1) = true := hL
      have ec : c = 1 := by rw [hc]; unfold icode; rw [hla]; rfl
      have eD : D = gzero := by rw [hD]; unfold ican; rw [hla]; rfl
      rw [ec, eD]
      exact askI_large s1 p1 k1 c1 q1 l1 d1 sz1 pz1 kz1 cz1 qz1 lz1 dz1 x1 y1 _ #[] a b W (ha.below hW) (hb.below hW) hL (ht.below hW)
  clear ha hb ht hc hD
  go_enter Tryz.func30, Tryz.ntmps30
  go_wp2_with fail
  have HV := hid (pre2 w [.bool s1, .slice p1 k1 c1, .slice q1 l1 d1, .bool sz1, .slice pz1 kz1 cz1, .slice qz1 lz1 dz1, .bool x1, .bool y1] [.bool false, .slice none 0 0, .slice none 0 0, .bool false, .slice none 0 0, .slice none 0 0, .bool false, .bool false] 26 26 ⟨trivial, trivial, trivial, trivial, trivial, trivial, trivial, trivial, trivial⟩ ⟨trivial, trivial, trivial, trivial, trivial, trivial, trivial, trivial, trivial⟩)
  generalize (w.alloc (.cells #[.bool s1, .slice p1 k1 c1, .slice q1 l1 d1, .bool sz1, .slice pz1 kz1 cz1, .slice qz1 lz1 dz1, .bool x1, .bool y1] 26)).alloc (.cells #[.bool false, .slice none 0 0, .slice none 0 0, .bool false, .slice none 0 0, .slice none 0 0, .bool false, .bool false] 26) = W0 at *
  refine (HC.out _ HV.out.2.2).mono ?_
  rintro e w1 ⟨s5, p5, k5, c5, q5, l5, d5, sz5, pz5, kz5, cz5, qz5, lz5, dz5, x5, y5, rfl, hG, hB1⟩
  have HE := hid (And.intro (HV.out.2.1.below hB1) (HV.out.2.2.trans (hB1.mono HV.out.2.2.size)))
  clear hB1
  obtain ⟨g0, g1, g2, g3, g4, g5, g6, g7, f0, f1, f2, f3, f4, f5, f6, f7⟩ := HE.out.1.cells8
  go_wp2_with fail
  exact iCanon_ret rfl rfl (HE.out.1.stores [.bool s5, .slice p5 k5 c5, .slice q5 l5 d5, .bool sz5, .slice pz5 kz5 cz5, .slice qz5 lz5 dz5, .bool x5, .bool y5] rfl ⟨trivial, trivial, trivial, trivial, trivial, trivial, trivial, trivial, trivial⟩) ⟨s5, p5, k5, c5, q5, l5, d5, sz5, pz5, kz5, cz5, qz5, lz5, dz5, x5, y5, rfl, hid (GRep.stores (k := 0) (l := [.bool s5, .slice p5 k5 c5, .slice q5 l5 d5, .bool sz5, .slice pz5 kz5 cz5, .slice qz5 lz5 dz5, .bool x5, .bool y5]) hG.out HE.out.1 ⟨trivial, trivial, trivial, trivial, trivial, trivial, trivial, trivial, trivial⟩), Below.stores (k := 0) (l := [.bool s5, .slice p5 k5 c5, .slice q5 l5 d5, .bool sz5, .slice pz5 kz5 cz5, .slice qz5 lz5 dz5, .bool x5, .bool y5]) HE.out.2 (by omega)⟩

set_option maxHeartbeats 2000000 in
set_option maxRecDepth 100000 in
theorem iBetween_any (s1 : Bool) (p1 : Option Addr) (k1 c1 : Nat) (q1 : Option Addr) (l1 d1 : Nat) (s2 : Bool) (p2 : Option Addr) (k2 c2 : Nat) (q2 : Option Addr) (l2 d2 : Nat) (a b : Bool × Nat × Nat) (w : World) (ha : NRep w (.agg #[.bool s1, .slice p1 k1 c1, .slice q1 l1 d1]) a) (hb : NRep w (.agg #[.bool s2, .slice p2 k2 c2, .slice q2 l2 d2]) b) (ht : TabOk w) :
    Calls Tryz.prog 21 #[.agg #[.bool s1, .slice p1 k1 c1, .slice q1 l1 d1], .agg #[.bool s2, .slice p2 k2 c2, .slice q2 l2 d2]] w fun e w' => ∃ s5 p5 k5 c5 q5 l5 d5 sz5 pz5 kz5 cz5 qz5 lz5 dz5 x5 y5, e = .returned (.tuple #[.agg #[.bool s5, .slice p5 k5 c5, .slice q5 l5 d5, .bool sz5, .slice pz5 kz5 cz5, .slice qz5 lz5 dz5, .bool x5, .bool y5], .int .i64 (icode (a, b, false, false))]) ∧ Hid (GRep w' (.agg #[.bool s5, .slice p5 k5 c5, .slice q5 l5 d5, .bool sz5, .slice pz5 kz5 cz5, .slice qz5 lz5 dz5, .bool x5, .bool y5]) (ican (a, b, false, false))) ∧ Below w.heap.size w w' := by
  have HC := hid (fun (W : World) (hW : Below w.heap.size w W) => iCanon_any s1 p1 k1 c1 q1 l1 d1 s2 p2 k2 c2 q2 l2 d2 false false a b W (ha.below hW) (hb.below hW) (ht.below hW))
  obtain ⟨c, hc⟩ : ∃ r, r = icode (a, b, false, false) := ⟨_, rfl⟩
  obtain ⟨D, hD⟩ : ∃ r, r = ican (a, b, false, false) := ⟨_, rfl⟩
  rw [← hc, ← hD] at HC
  rw [← hc, ← hD]
  clear ha hb ht hc hD
  go_enter Tryz.func21, Tryz.ntmps21
  go_wp2_with fail
  have HV := hid (pre3 w [.bool s1, .slice p1 k1 c1, .slice q1 l1 d1] [.bool s2, .slice p2 k2 c2, .slice q2 l2 d2] [.bool false, .slice none 0 0, .slice none 0 0, .bool false, .slice none 0 0, .slice none 0 0, .bool false, .bool false] 24 24 26 ⟨trivial, trivial, trivial, trivial⟩ ⟨trivial, trivial, trivial, trivial⟩ ⟨trivial, trivial, trivial, trivial, trivial, trivial, trivial, trivial, trivial⟩)
  generalize ((w.alloc (.cells #[.bool s1, .slice p1 k1 c1, .slice q1 l1 d1] 24)).alloc (.cells #[.bool s2, .slice p2 k2 c2, .slice q2 l2 d2] 24)).alloc (.cells #[.bool false, .slice none 0 0, .slice none 0 0, .bool false, .slice none 0 0, .slice none 0 0, .bool false, .bool false] 26) = W0 at *
  refine (HC.out _ HV.out.2.2.2).mono ?_
  rintro e w1 ⟨s5, p5, k5, c5, q5, l5, d5, sz5, pz5, kz5, cz5, qz5, lz5, dz5, x5, y5, rfl, hG, hB1⟩
  have HE := hid (And.intro (HV.out.2.2.1.below hB1) (HV.out.2.2.2.trans (hB1.mono HV.out.2.2.2.size)))
  clear hB1
  obtain ⟨g0, g1, g2, g3, g4, g5, g6, g7, f0, f1, f2, f3, f4, f5, f6, f7⟩ := HE.out.1.cells8
  go_wp2_with fail
  exact iBetween_ret rfl rfl (HE.out.1.stores [.bool s5, .slice p5 k5 c5, .slice q5 l5 d5, .bool sz5, .slice pz5 kz5 cz5, .slice qz5 lz5 dz5, .bool x5, .bool y5] rfl ⟨trivial, trivial, trivial, trivial, trivial, trivial, trivial, trivial, trivial⟩) ⟨s5, p5, k5, c5, q5, l5, d5, sz5, pz5, kz5, cz5, qz5, lz5, dz5, x5, y5, rfl, hid (GRep.stores (k := 0) (l := [.bool s5, .slice p5 k5 c5, .slice q5 l5 d5, .bool sz5, .slice pz5 kz5 cz5, .slice qz5 lz5 dz5, .bool x5, .bool y5]) hG.out HE.out.1 ⟨trivial, trivial, trivial, trivial, trivial, trivial, trivial, trivial, trivial⟩), Below.stores (k := 0) (l := [.bool s5, .slice p5 k5 c5, .slice q5 l5 d5, .bool sz5, .slice pz5 kz5 cz5, .slice qz5 lz5 dz5, .bool x5, .bool y5]) HE.out.2 (by omega)⟩

set_option maxHeartbeats 2000000 in
set_option maxRecDepth 100000 in
theorem iPoint_any (s1 : Bool) (p1 : Option Addr) (k1 c1 : Nat) (q1 : Option Addr) (l1 d1 : Nat) (a : Bool × Nat × Nat) (w : World) (ha : NRep w (.agg #[.bool s1, .slice p1 k1 c1, .slice q1 l1 d1]) a) (ht : TabOk w) :
    Calls Tryz.prog 19 #[.agg #[.bool s1, .slice p1 k1 c1, .slice q1 l1 d1]] w fun e w' => ∃ s5 p5 k5 c5 q5 l5 d5 sz5 pz5 kz5 cz5 qz5 lz5 dz5 x5 y5, e = .returned (.tuple #[.agg #[.bool s5, .slice p5 k5 c5, .slice q5 l5 d5, .bool sz5, .slice pz5 kz5 cz5, .slice qz5 lz5 dz5, .bool x5, .bool y5], .int .i64 (icode (a, a, false, false))]) ∧ Hid (GRep w' (.agg #[.bool s5, .slice p5 k5 c5, .slice q5 l5 d5, .bool sz5, .slice pz5 kz5 cz5, .slice qz5 lz5 dz5, .bool x5, .bool y5]) (ican (a, a, false, false))) ∧ Below w.heap.size w w' := by
  have HC := hid (fun (W : World) (hW : Below w.heap.size w W) => iBetween_any s1 p1 k1 c1 q1 l1 d1 s1 p1 k1 c1 q1 l1 d1 a a W (ha.below hW) (ha.below hW) (ht.below hW))
  obtain ⟨c, hc⟩ : ∃ r, r = icode (a, a, false, false) := ⟨_, rfl⟩
  obtain ⟨D, hD⟩ : ∃ r, r = ican (a, a, false, false) := ⟨_, rfl⟩
  rw [← hc, ← hD] at HC
  rw [← hc, ← hD]
  clear ha ht hc hD
  go_enter Tryz.func19, Tryz.ntmps19
  go_wp2_with fail
  have HV := hid (pre2 w [.bool s1, .slice p1 k1 c1, .slice q1 l1 d1] [.bool false, .slice none 0 0, .slice none 0 0, .bool false, .slice none 0 0, .slice none 0 0, .bool false, .bool false] 24 26 ⟨trivial, trivial, trivial, trivial⟩ ⟨trivial, trivial, trivial, trivial, trivial, trivial, trivial, trivial, trivial⟩)
  generalize (w.alloc (.cells #[.bool s1, .slice p1 k1 c1, .slice q1 l1 d1] 24)).alloc (.cells #[.bool false, .slice none 0 0, .slice none 0 0, .bool false, .slice none 0 0, .slice none 0 0, .bool false, .bool false] 26) = W0 at *
  refine (HC.out _ HV.out.2.2).mono ?_
  rintro e w1 ⟨s5, p5, k5, c5, q5, l5, d5, sz5, pz5, kz5, cz5, qz5, lz5, dz5, x5, y5, rfl, hG, hB1⟩
  have HE := hid (And.intro (HV.out.2.1.below hB1) (HV.out.2.2.trans (hB1.mono HV.out.2.2.size)))
  clear hB1
  obtain ⟨g0, g1, g2, g3, g4, g5, g6, g7, f0, f1, f2, f3, f4, f5, f6, f7⟩ := HE.out.1.cells8
  go_wp2_with fail
  exact iPoint_ret rfl rfl (HE.out.1.stores [.bool s5, .slice p5 k5 c5, .slice q5 l5 d5, .bool sz5, .slice pz5 kz5 cz5, .slice qz5 lz5 dz5, .bool x5, .bool y5] rfl ⟨trivial, trivial, trivial, trivial, trivial, trivial, trivial, trivial, trivial⟩) ⟨s5, p5, k5, c5, q5, l5, d5, sz5, pz5, kz5, cz5, qz5, lz5, dz5, x5, y5, rfl, hid (GRep.stores (k := 0) (l := [.bool s5, .slice p5 k5 c5, .slice q5 l5 d5, .bool sz5, .slice pz5 kz5 cz5, .slice qz5 lz5 dz5, .bool x5, .bool y5]) hG.out HE.out.1 ⟨trivial, trivial, trivial, trivial, trivial, trivial, trivial, trivial, trivial⟩), Below.stores (k := 0) (l := [.bool s5, .slice p5 k5 c5, .slice q5 l5 d5, .bool sz5, .slice pz5 kz5 cz5, .slice qz5 lz5 dz5, .bool x5, .bool y5]) HE.out.2 (by omega)⟩

/-- The interval of all real numbers. -/
def gline : (Bool × Nat × Nat) × (Bool × Nat × Nat) × Bool × Bool := ((false, 0, 0), (false, 0, 0), true, true)
theorem iWhole_any (w : World) : Calls Tryz.prog 24 #[] w fun e w' => e = .returned (.agg #[.bool false, .slice none 0 0, .slice none 0 0, .bool false, .slice none 0 0, .slice none 0 0, .bool true, .bool true]) ∧ Below w.heap.size w w' := by
  go_enter Tryz.func24, Tryz.ntmps24
  go_wp2_with fail
  exact iWhole_ret rfl (Box.mk' w [.bool false, .slice none 0 0, .slice none 0 0, .bool false, .slice none 0 0, .slice none 0 0, .bool true, .bool true] 26 ⟨trivial, trivial, trivial, trivial, trivial, trivial, trivial, trivial, trivial⟩) ⟨rfl, (Below.refl _ _).alloc (Nat.le_refl _) _⟩
end Go.Proofs.YtpdpabpdejmdbaaGreatDoor
