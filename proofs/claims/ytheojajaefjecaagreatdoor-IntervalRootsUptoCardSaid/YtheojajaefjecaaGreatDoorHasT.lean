/- Sets of the reference: reading. Sets of the reference: reading, with infinite ends. Whether a number is in an interval: the reference. -/
import Derived.Test.YtheojajaefjecaaGreatDoorFin
set_option maxHeartbeats 4000000
set_option maxRecDepth 100000
namespace Go.Proofs.YtheojajaefjecaaGreatDoor
open Go.RowKit Dg
def JRep (w : World) (v : Value) (r : (Bool × Nat × Nat) × (Bool × Nat × Nat) × Bool × Bool × Bool) : Prop :=
 ∃ s p k c q l d sz pz kz cz qz lz dz x y e, v = .agg #[.bool s, .slice p k c, .slice q l d, .bool sz, .slice pz kz cz, .slice qz lz dz, .bool x, .bool y, .bool e] ∧ QNorm w (.agg #[.bool s, .slice p k c, .slice q l d]) r.1 ∧ QNorm w (.agg #[.bool sz, .slice pz kz cz, .slice qz lz dz]) r.2.1 ∧ x = r.2.2.1 ∧ y = r.2.2.2.1 ∧ e = r.2.2.2.2
theorem JRep.below {w w' : World} {v : Value} {r : (Bool × Nat × Nat) × (Bool × Nat × Nat) × Bool × Bool × Bool} (h : JRep w v r) (hb : Below w.heap.size w w') : JRep w' v r := by
 obtain ⟨s, p, k, c, q, l, d, sz, pz, kz, cz, qz, lz, dz, x, y, e, hv, h1, h2, h3⟩ := h
 exact ⟨s, p, k, c, q, l, d, sz, pz, kz, cz, qz, lz, dz, x, y, e, hv, h1.below hb, h2.below hb, h3⟩
theorem QNorm.stores {l : List Value} {w : World} {B k : Nat} {cs : Array Value} {v : Value} {t : Bool × Nat × Nat} (h : QNorm w v t) (hB : Box w B cs) (hn : NDs l) : QNorm (Go.Proofs.YtheojajaefjecaaGreatDoor.stores w B k l) v t := by
 obtain ⟨vn, vd, hv, h1, h2⟩ := h
 exact ⟨vn, vd, hv, Rep.stores h1 hB hn, Rep.stores h2 hB hn⟩
theorem JRep.stores {l : List Value} {w : World} {B k : Nat} {cs : Array Value} {v : Value} {r : (Bool × Nat × Nat) × (Bool × Nat × Nat) × Bool × Bool × Bool} (h : JRep w v r) (hB : Box w B cs) (hn : NDs l) : JRep (Go.Proofs.YtheojajaefjecaaGreatDoor.stores w B k l) v r := by
 obtain ⟨s, p, k, c, q, l, d, sz, pz, kz, cz, qz, lz, dz, x, y, e, hv, h1, h2, h3⟩ := h
 exact ⟨s, p, k, c, q, l, d, sz, pz, kz, cz, qz, lz, dz, x, y, e, hv, QNorm.stores h1 hB hn, QNorm.stores h2 hB hn, h3⟩
theorem JRep.parts {w : World} (s : Bool) (p : Option Addr) (k c : Nat) (q : Option Addr) (l d : Nat) (sz : Bool) (pz : Option Addr) (kz cz : Nat) (qz : Option Addr) (lz dz : Nat) (x : Bool) (y : Bool) (e : Bool) {r : (Bool × Nat × Nat) × (Bool × Nat × Nat) × Bool × Bool × Bool} (h : JRep w (.agg #[.bool s, .slice p k c, .slice q l d, .bool sz, .slice pz kz cz, .slice qz lz dz, .bool x, .bool y, .bool e]) r) : QNorm w (.agg #[.bool s, .slice p k c, .slice q l d]) r.1 ∧ QNorm w (.agg #[.bool sz, .slice pz kz cz, .slice qz lz dz]) r.2.1 ∧ x = r.2.2.1 ∧ y = r.2.2.2.1 ∧ e = r.2.2.2.2 := by
 obtain ⟨s2, p2, k2, c2, q2, l2, d2, sz2, pz2, kz2, cz2, qz2, lz2, dz2, x2, y2, e2, hv, h1, h2, h3⟩ := h
 have e := Value.agg.inj hv
 simp at e
 obtain ⟨rfl, ⟨rfl, rfl, rfl⟩, ⟨rfl, rfl, rfl⟩, rfl, ⟨rfl, rfl, rfl⟩, ⟨rfl, rfl, rfl⟩, rfl, rfl, rfl⟩ := e
 exact ⟨h1, h2, h3⟩
theorem QNorm.zero (w : World) : QNorm w (.agg #[.bool false, .slice none 0 0, .slice none 0 0]) (false, 0, 0) := ⟨_, _, rfl, Rep.nil, Rep.nil⟩
def jnone : (Bool × Nat × Nat) × (Bool × Nat × Nat) × Bool × Bool × Bool := ((false, 0, 0), (false, 0, 0), false, false, true)
def jof (a : (Bool × Nat × Nat) × (Bool × Nat × Nat) × Bool × Bool) : (Bool × Nat × Nat) × (Bool × Nat × Nat) × Bool × Bool × Bool :=
 if !a.2.2.1 && !a.2.2.2 && decide (0 < fcmp (fr a.1) (fr a.2.1)) then jnone
 else (if a.2.2.1 then (false, 0, 0) else fr a.1, if a.2.2.2 then (false, 0, 0) else fr a.2.1, a.2.2.1, a.2.2.2, false)
theorem jNone_ret {W : World} {B : Nat} {a0 a1 a2 a3 a4 a5 a6 a7 a8 : Value} {tm : Array Value} {R : Ending → World → Prop} (h2 : tm[0]?.getD undef = .pointer (some ⟨B, 0, none⟩)) (hV : Box W B #[a0, a1, a2, a3, a4, a5, a6, a7, a8]) (hR : R (.returned (.agg #[a0, a1, a2, a3, a4, a5, a6, a7, a8])) W) :
  bodyPost Tryz.prog Tryz.f51 R .ret { tmps := tm, defers := [] } W := by
 obtain ⟨g0, g1, g2, g3, g4, g5, g6, g7, g8, _⟩ := hV.cells9
 exact bodyPost_ret (v := .agg #[a0, a1, a2, a3, a4, a5, a6, a7, a8]) (by simp [results, Tryz.results51, go_sem, h2, g0, g1, g2, g3, g4, g5, g6, g7, g8]) rfl hR
theorem jOf_ret {W : World} {B : Nat} {a0 a1 a2 a3 a4 a5 a6 a7 a8 : Value} {tm : Array Value} {R : Ending → World → Prop} (h2 : tm[2]?.getD undef = .pointer (some ⟨B, 0, none⟩)) (hV : Box W B #[a0, a1, a2, a3, a4, a5, a6, a7, a8]) (hR : R (.returned (.agg #[a0, a1, a2, a3, a4, a5, a6, a7, a8])) W) :
  bodyPost Tryz.prog Tryz.f90 R .ret { tmps := tm, defers := [] } W := by
 obtain ⟨g0, g1, g2, g3, g4, g5, g6, g7, g8, _⟩ := hV.cells9
 exact bodyPost_ret (v := .agg #[a0, a1, a2, a3, a4, a5, a6, a7, a8]) (by simp [results, Tryz.results90, go_sem, h2, g0, g1, g2, g3, g4, g5, g6, g7, g8]) rfl hR
theorem jNone_any (w : World) : Calls Tryz.prog 51 #[] w fun e w' => e = .returned (.agg #[.bool false, .slice none 0 0, .slice none 0 0, .bool false, .slice none 0 0, .slice none 0 0, .bool false, .bool false, .bool true]) ∧ Below w.heap.size w w' := by
 go_enter Tryz.func51, Tryz.ntmps51
 go_wp2_with fail
 exact jNone_ret rfl (Box.mk' w [.bool false, .slice none 0 0, .slice none 0 0, .bool false, .slice none 0 0, .slice none 0 0, .bool false, .bool false, .bool true] 61 nd9) ⟨rfl, (Below.refl _ _).alloc (Nat.le_refl _) _⟩
theorem jLarge_any (s1 : Bool) (p1 : Option Addr) (k1 c1 : Nat) (q1 : Option Addr) (l1 d1 : Nat) (sz1 : Bool) (pz1 : Option Addr) (kz1 cz1 : Nat) (qz1 : Option Addr) (lz1 dz1 : Nat) (x1 : Bool) (y1 : Bool) (a b : Bool × Nat × Nat) (w : World) (ha : NRep w (.agg #[.bool s1, .slice p1 k1 c1, .slice q1 l1 d1]) a) (hb : NRep w (.agg #[.bool sz1, .slice pz1 kz1 cz1, .slice qz1 lz1 dz1]) b) :
  Calls Tryz.prog 89 #[.agg #[.bool s1, .slice p1 k1 c1, .slice q1 l1 d1, .bool sz1, .slice pz1 kz1 cz1, .slice qz1 lz1 dz1, .bool x1, .bool y1]] w fun e w' => e = .returned (.bool (ilarge (a, b, x1, y1))) ∧ Below w.heap.size w w' := by
 have HL := hid (fun (W : World) (hW : Below w.heap.size w W) => Large_any (.agg #[.bool s1, .slice p1 k1 c1, .slice q1 l1 d1]) a W (ha.below hW))
 have HH := hid (fun (W : World) (hW : Below w.heap.size w W) => Large_any (.agg #[.bool sz1, .slice pz1 kz1 cz1, .slice qz1 lz1 dz1]) b W (hb.below hW))
 clear ha hb
 show Calls _ _ _ _ fun e w' => e = .returned (.bool (large a.2.1 a.2.2 || large b.2.1 b.2.2)) ∧ _
 obtain ⟨rl, hrl⟩ : ∃ r, r = large a.2.1 a.2.2 := ⟨_, rfl⟩
 obtain ⟨rh, hrh⟩ : ∃ r, r = large b.2.1 b.2.2 := ⟨_, rfl⟩
 rw [← hrl] at HL ⊢
 rw [← hrh] at HH ⊢
 clear hrl hrh
 cases rl
 all_goals
  go_enter Tryz.func89, Tryz.ntmps89
  go_wp2_with fail
  generalize hA : World.alloc _ _ = W0
  have HV := hid (pre1_o hA nd8)
  clear hA
  refine (HL.out _ HV.out.2).mono ?_
  rintro e w1 ⟨rfl, hB1⟩
  have HE := hid (HV.out.2.trans (hB1.mono HV.out.2.size))
  obtain ⟨m0, m1, m2, m3, m4, m5, m6, m7, _⟩ := (HV.out.1.below hB1).cells8
  clear hB1
  go_wp2_with fail
 ·refine (HH.out _ HE.out).mono ?_
  rintro e w2 ⟨rfl, hB2⟩
  have HE2 := hid (HE.out.trans (hB2.mono HE.out.size))
  clear hB2
  go_wp2_with fail
  go_ret
  exact ⟨rfl, HE2.out⟩
 ·go_ret
  exact ⟨rfl, HE.out⟩
theorem jOf_ff (s1 : Bool) (p1 : Option Addr) (k1 c1 : Nat) (q1 : Option Addr) (l1 d1 : Nat) (sz1 : Bool) (pz1 : Option Addr) (kz1 cz1 : Nat) (qz1 : Option Addr) (lz1 dz1 : Nat) (a b : Bool × Nat × Nat) (w : World) (ha : NRep w (.agg #[.bool s1, .slice p1 k1 c1, .slice q1 l1 d1]) a) (hb : NRep w (.agg #[.bool sz1, .slice pz1 kz1 cz1, .slice qz1 lz1 dz1]) b) (h1 : large a.2.1 a.2.2 = false) (h2 : large b.2.1 b.2.2 = false) :
  Calls Tryz.prog 90 #[.agg #[.bool s1, .slice p1 k1 c1, .slice q1 l1 d1, .bool sz1, .slice pz1 kz1 cz1, .slice qz1 lz1 dz1, .bool false, .bool false]] w fun e w' => ∃ s2 p2 k2 c2 q2 l2 d2 sz2 pz2 kz2 cz2 qz2 lz2 dz2 x2 y2 e2, e = .returned (.agg #[.bool s2, .slice p2 k2 c2, .slice q2 l2 d2, .bool sz2, .slice pz2 kz2 cz2, .slice qz2 lz2 dz2, .bool x2, .bool y2, .bool e2]) ∧ Hid (JRep w' (.agg #[.bool s2, .slice p2 k2 c2, .slice q2 l2 d2, .bool sz2, .slice pz2 kz2 cz2, .slice qz2 lz2 dz2, .bool x2, .bool y2, .bool e2]) (jof (a, b, false, false))) ∧ Below w.heap.size w w' := by
 have HL := hid (fun (W : World) (hW : Below w.heap.size w W) => rOfF_any (.agg #[.bool s1, .slice p1 k1 c1, .slice q1 l1 d1]) a W (ha.below hW) h1)
 have HH := hid (fun (W : World) (hW : Below w.heap.size w W) => rOfF_any (.agg #[.bool sz1, .slice pz1 kz1 cz1, .slice qz1 lz1 dz1]) b W (hb.below hW) h2)
 have hbx := fr_bd h1
 have hby := fr_bd h2
 have HCm := hid (fun (W : World) (v1 v2 : Value) (q1 : QNorm W v1 (fr a)) (q2 : QNorm W v2 (fr b)) => rCmp_any v1 v2 (fr a) (fr b) 128 W q1 q2 (lt_W_B6 hbx.1 (by omega)) (lt_W_B6 hbx.2 (by omega)) (lt_W_B6 hby.1 (by omega)) (lt_W_B6 hby.2 (by omega)) (by omega) (frac_pos (den1_pos _)) (frac_pos (den1_pos _)))
 clear ha hb h1 h2 hbx hby
 obtain ⟨ra, hra⟩ : ∃ r, r = fr a := ⟨_, rfl⟩
 obtain ⟨rb, hrb⟩ : ∃ r, r = fr b := ⟨_, rfl⟩
 obtain ⟨rc, hrc⟩ : ∃ r, r = fcmp (fr a) (fr b) := ⟨_, rfl⟩
 have hj : jof (a, b, false, false) = if !false && !false && decide (0 < rc) then jnone else (if false then (false, 0, 0) else ra, if false then (false, 0, 0) else rb, false, false, false) := by
  rw [hra, hrb, hrc]; rfl
 rw [hj]
 rw [← hrc, ← hra, ← hrb] at HCm
 rw [← hra] at HL
 rw [← hrb] at HH
 clear hj hra hrb hrc
 obtain ⟨r, hr⟩ : ∃ r, r = (if !false && !false && decide (0 < rc) then jnone else (if false then (false, 0, 0) else ra, if false then (false, 0, 0) else rb, false, false, false)) := ⟨_, rfl⟩
 rw [← hr]
 have HX := hid hr
 clear hr
 go_enter Tryz.func90, Tryz.ntmps90
 go_wp2_with fail
 generalize hA : World.alloc _ _ = W0
 have HV := hid (pre3_o hA nd8 nd9 nd9)
 clear hA
 refine (HL.out _ (HV.out.2.2.2)).mono ?_
 rintro e w1 ⟨s3, p3, k3, c3, q3, l3, d3, rfl, hF1, hB1⟩
 obtain ⟨m1_0, m1_1, m1_2, m1_3, m1_4, m1_5, m1_6, m1_7, _⟩ := (HV.out.1.below hB1).cells8
 obtain ⟨n1_0, n1_1, n1_2, n1_3, n1_4, n1_5, n1_6, n1_7, n1_8, n1_9, n1_10, n1_11, n1_12, n1_13, n1_14, n1_15, n1_16, n1_17⟩ := (HV.out.2.2.1.below hB1).cells9
 have HK1 := hid (And.intro (HV.out.1.below hB1) (And.intro (HV.out.2.1.below hB1) (And.intro (HV.out.2.2.1.below hB1) ((HV.out.2.2.2).trans (hB1.mono (HV.out.2.2.2).size)))))
 clear hB1
 go_wp2_with fail
 have HI1 : Box (((w1.setCell ⟨w.heap.size + 1 + 1, 0, none⟩ (.bool s3)).setCell ⟨w.heap.size + 1 + 1, 1, none⟩ (.slice p3 k3 c3)).setCell ⟨w.heap.size + 1 + 1, 2, none⟩ (.slice q3 l3 d3)) (w.heap.size + 1 + 1) #[.bool s3, .slice p3 k3 c3, .slice q3 l3 d3, .bool false, .slice none 0 0, .slice none 0 0, .bool false, .bool false, .bool false] := ((HK1.out.2.2.1.set 0 (.bool s3) trivial).set 1 (.slice p3 k3 c3) trivial).set 2 (.slice q3 l3 d3) trivial
 have HJ1 := hid (And.intro (show Box (((w1.setCell ⟨w.heap.size + 1 + 1, 0, none⟩ (.bool s3)).setCell ⟨w.heap.size + 1 + 1, 1, none⟩ (.slice p3 k3 c3)).setCell ⟨w.heap.size + 1 + 1, 2, none⟩ (.slice q3 l3 d3)) w.heap.size _ from Box.stores_other (k := 0) (l := [.bool s3, .slice p3 k3 c3, .slice q3 l3 d3]) HK1.out.1 (by omega)) (And.intro (show Box (((w1.setCell ⟨w.heap.size + 1 + 1, 0, none⟩ (.bool s3)).setCell ⟨w.heap.size + 1 + 1, 1, none⟩ (.slice p3 k3 c3)).setCell ⟨w.heap.size + 1 + 1, 2, none⟩ (.slice q3 l3 d3)) (w.heap.size + 1) _ from Box.stores_other (k := 0) (l := [.bool s3, .slice p3 k3 c3, .slice q3 l3 d3]) HK1.out.2.1 (by omega)) (And.intro HI1 (show Below w.heap.size w (((w1.setCell ⟨w.heap.size + 1 + 1, 0, none⟩ (.bool s3)).setCell ⟨w.heap.size + 1 + 1, 1, none⟩ (.slice p3 k3 c3)).setCell ⟨w.heap.size + 1 + 1, 2, none⟩ (.slice q3 l3 d3)) from Below.stores (k := 0) (l := [.bool s3, .slice p3 k3 c3, .slice q3 l3 d3]) HK1.out.2.2.2 (by omega)))))
 have HS1_3 := hid (show QNorm (((w1.setCell ⟨w.heap.size + 1 + 1, 0, none⟩ (.bool s3)).setCell ⟨w.heap.size + 1 + 1, 1, none⟩ (.slice p3 k3 c3)).setCell ⟨w.heap.size + 1 + 1, 2, none⟩ (.slice q3 l3 d3)) (.agg #[.bool s3, .slice p3 k3 c3, .slice q3 l3 d3]) ra from QNorm.stores (k := 0) (l := [.bool s3, .slice p3 k3 c3, .slice q3 l3 d3]) hF1.out HK1.out.2.2.1 nd3)
 clear HI1 HK1 m1_0 m1_1 m1_2 m1_3 m1_4 m1_5 m1_6 m1_7 n1_0 n1_1 n1_2 n1_3 n1_4 n1_5 n1_6 n1_7 n1_8 n1_9 n1_10 n1_11 n1_12 n1_13 n1_14 n1_15 n1_16 n1_17
 generalize (((w1.setCell ⟨w.heap.size + 1 + 1, 0, none⟩ (.bool s3)).setCell ⟨w.heap.size + 1 + 1, 1, none⟩ (.slice p3 k3 c3)).setCell ⟨w.heap.size + 1 + 1, 2, none⟩ (.slice q3 l3 d3)) = W1 at *
 refine (HH.out _ (HJ1.out.2.2.2)).mono ?_
 rintro e w2 ⟨s4, p4, k4, c4, q4, l4, d4, rfl, hF2, hB2⟩
 obtain ⟨m2_0, m2_1, m2_2, m2_3, m2_4, m2_5, m2_6, m2_7, _⟩ := (HJ1.out.1.below hB2).cells8
 obtain ⟨n2_0, n2_1, n2_2, n2_3, n2_4, n2_5, n2_6, n2_7, n2_8, n2_9, n2_10, n2_11, n2_12, n2_13, n2_14, n2_15, n2_16, n2_17⟩ := (HJ1.out.2.2.1.below hB2).cells9
 have HK2 := hid (And.intro (HJ1.out.1.below hB2) (And.intro (HJ1.out.2.1.below hB2) (And.intro (HJ1.out.2.2.1.below hB2) ((HJ1.out.2.2.2).trans (hB2.mono (HJ1.out.2.2.2).size)))))
 have HR2_3 := hid (QNorm.below HS1_3.out hB2)
 clear hB2
 go_wp2_with fail
 have HI2 : Box (((w2.setCell ⟨w.heap.size + 1 + 1, 3, none⟩ (.bool s4)).setCell ⟨w.heap.size + 1 + 1, 4, none⟩ (.slice p4 k4 c4)).setCell ⟨w.heap.size + 1 + 1, 5, none⟩ (.slice q4 l4 d4)) (w.heap.size + 1 + 1) #[.bool s3, .slice p3 k3 c3, .slice q3 l3 d3, .bool s4, .slice p4 k4 c4, .slice q4 l4 d4, .bool false, .bool false, .bool false] := ((HK2.out.2.2.1.set 3 (.bool s4) trivial).set 4 (.slice p4 k4 c4) trivial).set 5 (.slice q4 l4 d4) trivial
 have HJ2 := hid (And.intro (show Box (((w2.setCell ⟨w.heap.size + 1 + 1, 3, none⟩ (.bool s4)).setCell ⟨w.heap.size + 1 + 1, 4, none⟩ (.slice p4 k4 c4)).setCell ⟨w.heap.size + 1 + 1, 5, none⟩ (.slice q4 l4 d4)) w.heap.size _ from Box.stores_other (k := 3) (l := [.bool s4, .slice p4 k4 c4, .slice q4 l4 d4]) HK2.out.1 (by omega)) (And.intro (show Box (((w2.setCell ⟨w.heap.size + 1 + 1, 3, none⟩ (.bool s4)).setCell ⟨w.heap.size + 1 + 1, 4, none⟩ (.slice p4 k4 c4)).setCell ⟨w.heap.size + 1 + 1, 5, none⟩ (.slice q4 l4 d4)) (w.heap.size + 1) _ from Box.stores_other (k := 3) (l := [.bool s4, .slice p4 k4 c4, .slice q4 l4 d4]) HK2.out.2.1 (by omega)) (And.intro HI2 (show Below w.heap.size w (((w2.setCell ⟨w.heap.size + 1 + 1, 3, none⟩ (.bool s4)).setCell ⟨w.heap.size + 1 + 1, 4, none⟩ (.slice p4 k4 c4)).setCell ⟨w.heap.size + 1 + 1, 5, none⟩ (.slice q4 l4 d4)) from Below.stores (k := 3) (l := [.bool s4, .slice p4 k4 c4, .slice q4 l4 d4]) HK2.out.2.2.2 (by omega)))))
 have HS2_3 := hid (show QNorm (((w2.setCell ⟨w.heap.size + 1 + 1, 3, none⟩ (.bool s4)).setCell ⟨w.heap.size + 1 + 1, 4, none⟩ (.slice p4 k4 c4)).setCell ⟨w.heap.size + 1 + 1, 5, none⟩ (.slice q4 l4 d4)) (.agg #[.bool s3, .slice p3 k3 c3, .slice q3 l3 d3]) ra from QNorm.stores (k := 3) (l := [.bool s4, .slice p4 k4 c4, .slice q4 l4 d4]) HR2_3.out HK2.out.2.2.1 nd3)
 have HS2_4 := hid (show QNorm (((w2.setCell ⟨w.heap.size + 1 + 1, 3, none⟩ (.bool s4)).setCell ⟨w.heap.size + 1 + 1, 4, none⟩ (.slice p4 k4 c4)).setCell ⟨w.heap.size + 1 + 1, 5, none⟩ (.slice q4 l4 d4)) (.agg #[.bool s4, .slice p4 k4 c4, .slice q4 l4 d4]) rb from QNorm.stores (k := 3) (l := [.bool s4, .slice p4 k4 c4, .slice q4 l4 d4]) hF2.out HK2.out.2.2.1 nd3)
 clear HI2 HK2 m2_0 m2_1 m2_2 m2_3 m2_4 m2_5 m2_6 m2_7 n2_0 n2_1 n2_2 n2_3 n2_4 n2_5 n2_6 n2_7 n2_8 n2_9 n2_10 n2_11 n2_12 n2_13 n2_14 n2_15 n2_16 n2_17
 generalize (((w2.setCell ⟨w.heap.size + 1 + 1, 3, none⟩ (.bool s4)).setCell ⟨w.heap.size + 1 + 1, 4, none⟩ (.slice p4 k4 c4)).setCell ⟨w.heap.size + 1 + 1, 5, none⟩ (.slice q4 l4 d4)) = W2 at *
 refine (HCm.out _ _ _ HS2_3.out HS2_4.out).mono ?_
 rintro e w5 ⟨rfl, hB5⟩
 have HK5 := hid (And.intro (HJ2.out.2.1.below hB5) (And.intro (HJ2.out.2.2.1.below hB5) ((HJ2.out.2.2.2).trans (hB5.mono (HJ2.out.2.2.2).size))))
 have HQ5 := hid (And.intro (QNorm.below HS2_3.out hB5) (QNorm.below HS2_4.out hB5))
 clear hB5
 by_cases hc : 0 < rc
 ·go_wp2_with fail
  refine (jNone_any w5).mono ?_
  rintro e w6 ⟨rfl, hB6⟩
  have HK6 := hid (And.intro (HK5.out.1.below hB6) (HK5.out.2.2.trans (hB6.mono HK5.out.2.2.size)))
  clear hB6
  obtain ⟨n6_0, n6_1, n6_2, n6_3, n6_4, n6_5, n6_6, n6_7, n6_8, n6_9, n6_10, n6_11, n6_12, n6_13, n6_14, n6_15, n6_16, n6_17⟩ := HK6.out.1.cells9
  go_wp2_with fail
  have hr1 : r = jnone := by rw [HX.out, decide_eq_true hc]; rfl
  exact jOf_ret rfl (HK6.out.1.stores [.bool false, .slice none 0 0, .slice none 0 0, .bool false, .slice none 0 0, .slice none 0 0, .bool false, .bool false, .bool true] rfl nd9) ⟨_, _, _, _, _, _, _, _, _, _, _, _, _, _, _, _, _, rfl, hid ⟨_, _, _, _, _, _, _, _, _, _, _, _, _, _, _, _, _, rfl, by rw [hr1]; exact QNorm.zero _, by rw [hr1]; exact QNorm.zero _, by rw [hr1]; rfl, by rw [hr1]; rfl, by rw [hr1]; rfl⟩, Below.stores (k := 0) (l := [.bool false, .slice none 0 0, .slice none 0 0, .bool false, .slice none 0 0, .slice none 0 0, .bool false, .bool false, .bool true]) HK6.out.2 (by omega)⟩
 ·have hc2 : decide (0 < rc) = false := decide_eq_false hc
  obtain ⟨n6_0, n6_1, n6_2, n6_3, n6_4, n6_5, n6_6, n6_7, n6_8, n6_9, n6_10, n6_11, n6_12, n6_13, n6_14, n6_15, n6_16, n6_17⟩ := HK5.out.1.cells9
  obtain ⟨n7_0, n7_1, n7_2, n7_3, n7_4, n7_5, n7_6, n7_7, n7_8, n7_9, n7_10, n7_11, n7_12, n7_13, n7_14, n7_15, n7_16, n7_17⟩ := HK5.out.2.1.cells9
  go_wp2_with fail
  have hr1 : r = (ra, rb, false, false, false) := by rw [HX.out, hc2]; rfl
  exact jOf_ret rfl (HK5.out.1.stores [.bool s3, .slice p3 k3 c3, .slice q3 l3 d3, .bool s4, .slice p4 k4 c4, .slice q4 l4 d4, .bool false, .bool false, .bool false] rfl nd9) ⟨_, _, _, _, _, _, _, _, _, _, _, _, _, _, _, _, _, rfl, hid ⟨_, _, _, _, _, _, _, _, _, _, _, _, _, _, _, _, _, rfl, by rw [hr1]; exact QNorm.stores (k := 0) (l := [.bool s3, .slice p3 k3 c3, .slice q3 l3 d3, .bool s4, .slice p4 k4 c4, .slice q4 l4 d4, .bool false, .bool false, .bool false]) HQ5.out.1 HK5.out.1 nd9, by rw [hr1]; exact QNorm.stores (k := 0) (l := [.bool s3, .slice p3 k3 c3, .slice q3 l3 d3, .bool s4, .slice p4 k4 c4, .slice q4 l4 d4, .bool false, .bool false, .bool false]) HQ5.out.2 HK5.out.1 nd9, by rw [hr1], by rw [hr1], by rw [hr1]⟩, Below.stores (k := 0) (l := [.bool s3, .slice p3 k3 c3, .slice q3 l3 d3, .bool s4, .slice p4 k4 c4, .slice q4 l4 d4, .bool false, .bool false, .bool false]) HK5.out.2.2 (by omega)⟩
end Go.Proofs.YtheojajaefjecaaGreatDoor
namespace Go.Proofs.YtheojajaefjecaaGreatDoor
open Go.RowKit Dg
def JOut (w : World) (r : (Bool × Nat × Nat) × (Bool × Nat × Nat) × Bool × Bool × Bool) (e : Ending) (w' : World) : Prop := ∃ s2 p2 k2 c2 q2 l2 d2 sz2 pz2 kz2 cz2 qz2 lz2 dz2 x2 y2 e2, e = .returned (.agg #[.bool s2, .slice p2 k2 c2, .slice q2 l2 d2, .bool sz2, .slice pz2 kz2 cz2, .slice qz2 lz2 dz2, .bool x2, .bool y2, .bool e2]) ∧ Hid (JRep w' (.agg #[.bool s2, .slice p2 k2 c2, .slice q2 l2 d2, .bool sz2, .slice pz2 kz2 cz2, .slice qz2 lz2 dz2, .bool x2, .bool y2, .bool e2]) r) ∧ Below w.heap.size w w'
theorem jOf_tt (s1 : Bool) (p1 : Option Addr) (k1 c1 : Nat) (q1 : Option Addr) (l1 d1 : Nat) (sz1 : Bool) (pz1 : Option Addr) (kz1 cz1 : Nat) (qz1 : Option Addr) (lz1 dz1 : Nat) (a b : Bool × Nat × Nat) (w : World) (ha : NRep w (.agg #[.bool s1, .slice p1 k1 c1, .slice q1 l1 d1]) a) (hb : NRep w (.agg #[.bool sz1, .slice pz1 kz1 cz1, .slice qz1 lz1 dz1]) b) (h1 : large a.2.1 a.2.2 = false) (h2 : large b.2.1 b.2.2 = false) :
  Calls Tryz.prog 90 #[.agg #[.bool s1, .slice p1 k1 c1, .slice q1 l1 d1, .bool sz1, .slice pz1 kz1 cz1, .slice qz1 lz1 dz1, .bool true, .bool true]] w fun e w' => ∃ s2 p2 k2 c2 q2 l2 d2 sz2 pz2 kz2 cz2 qz2 lz2 dz2 x2 y2 e2, e = .returned (.agg #[.bool s2, .slice p2 k2 c2, .slice q2 l2 d2, .bool sz2, .slice pz2 kz2 cz2, .slice qz2 lz2 dz2, .bool x2, .bool y2, .bool e2]) ∧ Hid (JRep w' (.agg #[.bool s2, .slice p2 k2 c2, .slice q2 l2 d2, .bool sz2, .slice pz2 kz2 cz2, .slice qz2 lz2 dz2, .bool x2, .bool y2, .bool e2]) (jof (a, b, true, true))) ∧ Below w.heap.size w w' := by
 have HL := hid (fun (W : World) (hW : Below w.heap.size w W) => rOfF_any (.agg #[.bool s1, .slice p1 k1 c1, .slice q1 l1 d1]) a W (ha.below hW) h1)
 have HH := hid (fun (W : World) (hW : Below w.heap.size w W) => rOfF_any (.agg #[.bool sz1, .slice pz1 kz1 cz1, .slice qz1 lz1 dz1]) b W (hb.below hW) h2)
 have hbx := fr_bd h1
 have hby := fr_bd h2
 have HCm := hid (fun (W : World) (v1 v2 : Value) (q1 : QNorm W v1 (fr a)) (q2 : QNorm W v2 (fr b)) => rCmp_any v1 v2 (fr a) (fr b) 128 W q1 q2 (lt_W_B6 hbx.1 (by omega)) (lt_W_B6 hbx.2 (by omega)) (lt_W_B6 hby.1 (by omega)) (lt_W_B6 hby.2 (by omega)) (by omega) (frac_pos (den1_pos _)) (frac_pos (den1_pos _)))
 clear ha hb h1 h2 hbx hby
 obtain ⟨ra, hra⟩ : ∃ r, r = fr a := ⟨_, rfl⟩
 obtain ⟨rb, hrb⟩ : ∃ r, r = fr b := ⟨_, rfl⟩
 obtain ⟨rc, hrc⟩ : ∃ r, r = fcmp (fr a) (fr b) := ⟨_, rfl⟩
 have hj : jof (a, b, true, true) = if !true && !true && decide (0 < rc) then jnone else (if true then (false, 0, 0) else ra, if true then (false, 0, 0) else rb, true, true, false) := by
  rw [hra, hrb, hrc]; rfl
 rw [hj]
 rw [← hrc, ← hra, ← hrb] at HCm
 rw [← hra] at HL
 rw [← hrb] at HH
 clear hj hra hrb hrc
 obtain ⟨r, hr⟩ : ∃ r, r = (if !true && !true && decide (0 < rc) then jnone else (if true then (false, 0, 0) else ra, if true then (false, 0, 0) else rb, true, true, false)) := ⟨_, rfl⟩
 rw [← hr]
 have HX := hid hr
 clear hr
 show Calls _ _ _ _ (JOut w r)
 go_enter Tryz.func90, Tryz.ntmps90
 go_upto_region 8 with fail
 generalize hA : World.alloc _ _ = W0
 have HV := hid (pre3_o hA nd8 nd9 nd9)
 clear hA
 obtain ⟨a0, a1, a2, a3, a4, a5, a6, a7, _⟩ := HV.out.1.cells8
 obtain ⟨u0, u1, u2, u3, u4, u5, u6, u7, u8, u9, u10, u11, u12, u13, u14, u15, u16, u17⟩ := HV.out.2.1.cells9
 obtain ⟨v0, v1, v2, v3, v4, v5, v6, v7, v8, _⟩ := HV.out.2.2.1.cells9
 go_wp2_with fail
 have hr1 : r = ((false, 0, 0), (false, 0, 0), true, true, false) := by rw [HX.out]; rfl
 exact jOf_ret rfl (HV.out.2.1.stores [.bool false, .slice none 0 0, .slice none 0 0, .bool false, .slice none 0 0, .slice none 0 0, .bool true, .bool true, .bool false] rfl nd9) (by unfold JOut; exact ⟨_, _, _, _, _, _, _, _, _, _, _, _, _, _, _, _, _, rfl, hid ⟨_, _, _, _, _, _, _, _, _, _, _, _, _, _, _, _, _, rfl, by rw [hr1]; exact QNorm.zero _, by rw [hr1]; exact QNorm.zero _, by rw [hr1], by rw [hr1], by rw [hr1]⟩, Below.stores (k := 0) (l := [.bool false, .slice none 0 0, .slice none 0 0, .bool false, .slice none 0 0, .slice none 0 0, .bool true, .bool true, .bool false]) HV.out.2.2.2 (by omega)⟩)
theorem jOf_tf (s1 : Bool) (p1 : Option Addr) (k1 c1 : Nat) (q1 : Option Addr) (l1 d1 : Nat) (sz1 : Bool) (pz1 : Option Addr) (kz1 cz1 : Nat) (qz1 : Option Addr) (lz1 dz1 : Nat) (a b : Bool × Nat × Nat) (w : World) (ha : NRep w (.agg #[.bool s1, .slice p1 k1 c1, .slice q1 l1 d1]) a) (hb : NRep w (.agg #[.bool sz1, .slice pz1 kz1 cz1, .slice qz1 lz1 dz1]) b) (h1 : large a.2.1 a.2.2 = false) (h2 : large b.2.1 b.2.2 = false) :
  Calls Tryz.prog 90 #[.agg #[.bool s1, .slice p1 k1 c1, .slice q1 l1 d1, .bool sz1, .slice pz1 kz1 cz1, .slice qz1 lz1 dz1, .bool true, .bool false]] w fun e w' => ∃ s2 p2 k2 c2 q2 l2 d2 sz2 pz2 kz2 cz2 qz2 lz2 dz2 x2 y2 e2, e = .returned (.agg #[.bool s2, .slice p2 k2 c2, .slice q2 l2 d2, .bool sz2, .slice pz2 kz2 cz2, .slice qz2 lz2 dz2, .bool x2, .bool y2, .bool e2]) ∧ Hid (JRep w' (.agg #[.bool s2, .slice p2 k2 c2, .slice q2 l2 d2, .bool sz2, .slice pz2 kz2 cz2, .slice qz2 lz2 dz2, .bool x2, .bool y2, .bool e2]) (jof (a, b, true, false))) ∧ Below w.heap.size w w' := by
 have HL := hid (fun (W : World) (hW : Below w.heap.size w W) => rOfF_any (.agg #[.bool s1, .slice p1 k1 c1, .slice q1 l1 d1]) a W (ha.below hW) h1)
 have HH := hid (fun (W : World) (hW : Below w.heap.size w W) => rOfF_any (.agg #[.bool sz1, .slice pz1 kz1 cz1, .slice qz1 lz1 dz1]) b W (hb.below hW) h2)
 have hbx := fr_bd h1
 have hby := fr_bd h2
 have HCm := hid (fun (W : World) (v1 v2 : Value) (q1 : QNorm W v1 (fr a)) (q2 : QNorm W v2 (fr b)) => rCmp_any v1 v2 (fr a) (fr b) 128 W q1 q2 (lt_W_B6 hbx.1 (by omega)) (lt_W_B6 hbx.2 (by omega)) (lt_W_B6 hby.1 (by omega)) (lt_W_B6 hby.2 (by omega)) (by omega) (frac_pos (den1_pos _)) (frac_pos (den1_pos _)))
 clear ha hb h1 h2 hbx hby
 obtain ⟨ra, hra⟩ : ∃ r, r = fr a := ⟨_, rfl⟩
 obtain ⟨rb, hrb⟩ : ∃ r, r = fr b := ⟨_, rfl⟩
 obtain ⟨rc, hrc⟩ : ∃ r, r = fcmp (fr a) (fr b) := ⟨_, rfl⟩
 have hj : jof (a, b, true, false) = if !true && !false && decide (0 < rc) then jnone else (if true then (false, 0, 0) else ra, if false then (false, 0, 0) else rb, true, false, false) := by
  rw [hra, hrb, hrc]; rfl
 rw [hj]
 rw [← hrc, ← hra, ← hrb] at HCm
 rw [← hra] at HL
 rw [← hrb] at HH
 clear hj hra hrb hrc
 obtain ⟨r, hr⟩ : ∃ r, r = (if !true && !false && decide (0 < rc) then jnone else (if true then (false, 0, 0) else ra, if false then (false, 0, 0) else rb, true, false, false)) := ⟨_, rfl⟩
 rw [← hr]
 have HX := hid hr
 clear hr
 go_enter Tryz.func90, Tryz.ntmps90
 go_wp2_with fail
 generalize hA : World.alloc _ _ = W0
 have HV := hid (pre3_o hA nd8 nd9 nd9)
 clear hA
 refine (HH.out _ HV.out.2.2.2).mono ?_
 rintro e w1 ⟨s4, p4, k4, c4, q4, l4, d4, rfl, hF, hB⟩
 have HK := hid (And.intro (HV.out.1.below hB) (And.intro (HV.out.2.1.below hB) (And.intro (HV.out.2.2.1.below hB) (HV.out.2.2.2.trans (hB.mono HV.out.2.2.2.size)))))
 clear hB
 obtain ⟨n0, n1, n2, n3, n4, n5, n6, n7, n8, n9, n10, n11, n12, n13, n14, n15, n16, n17⟩ := HK.out.2.2.1.cells9
 obtain ⟨m0, m1, m2, m3, m4, m5, m6, m7, _⟩ := HK.out.1.cells8
 go_upto_region 8 with fail
 have HI : Box (((w1.setCell ⟨w.heap.size + 1 + 1, 3, none⟩ (.bool s4)).setCell ⟨w.heap.size + 1 + 1, 4, none⟩ (.slice p4 k4 c4)).setCell ⟨w.heap.size + 1 + 1, 5, none⟩ (.slice q4 l4 d4)) (w.heap.size + 1 + 1) #[.bool false, .slice none 0 0, .slice none 0 0, .bool s4, .slice p4 k4 c4, .slice q4 l4 d4, .bool true, .bool false, .bool false] := ((HK.out.2.2.1.set 3 (.bool s4) trivial).set 4 (.slice p4 k4 c4) trivial).set 5 (.slice q4 l4 d4) trivial
 have HJ := hid (And.intro (show Box (((w1.setCell ⟨w.heap.size + 1 + 1, 3, none⟩ (.bool s4)).setCell ⟨w.heap.size + 1 + 1, 4, none⟩ (.slice p4 k4 c4)).setCell ⟨w.heap.size + 1 + 1, 5, none⟩ (.slice q4 l4 d4)) w.heap.size _ from Box.stores_other (k := 3) (l := [.bool s4, .slice p4 k4 c4, .slice q4 l4 d4]) HK.out.1 (by omega)) (And.intro (show Box (((w1.setCell ⟨w.heap.size + 1 + 1, 3, none⟩ (.bool s4)).setCell ⟨w.heap.size + 1 + 1, 4, none⟩ (.slice p4 k4 c4)).setCell ⟨w.heap.size + 1 + 1, 5, none⟩ (.slice q4 l4 d4)) (w.heap.size + 1) _ from Box.stores_other (k := 3) (l := [.bool s4, .slice p4 k4 c4, .slice q4 l4 d4]) HK.out.2.1 (by omega)) (And.intro HI (show Below w.heap.size w (((w1.setCell ⟨w.heap.size + 1 + 1, 3, none⟩ (.bool s4)).setCell ⟨w.heap.size + 1 + 1, 4, none⟩ (.slice p4 k4 c4)).setCell ⟨w.heap.size + 1 + 1, 5, none⟩ (.slice q4 l4 d4)) from Below.stores (k := 3) (l := [.bool s4, .slice p4 k4 c4, .slice q4 l4 d4]) HK.out.2.2.2 (by omega)))))
 have HS := hid (show QNorm (((w1.setCell ⟨w.heap.size + 1 + 1, 3, none⟩ (.bool s4)).setCell ⟨w.heap.size + 1 + 1, 4, none⟩ (.slice p4 k4 c4)).setCell ⟨w.heap.size + 1 + 1, 5, none⟩ (.slice q4 l4 d4)) (.agg #[.bool s4, .slice p4 k4 c4, .slice q4 l4 d4]) rb from QNorm.stores (k := 3) (l := [.bool s4, .slice p4 k4 c4, .slice q4 l4 d4]) hF.out HK.out.2.2.1 nd3)
 clear HI
 generalize (((w1.setCell ⟨w.heap.size + 1 + 1, 3, none⟩ (.bool s4)).setCell ⟨w.heap.size + 1 + 1, 4, none⟩ (.slice p4 k4 c4)).setCell ⟨w.heap.size + 1 + 1, 5, none⟩ (.slice q4 l4 d4)) = W1 at *
 clear n0 n1 n2 n3 n4 n5 n6 n7 n8 n9 n10 n11 n12 n13 n14 n15 n16 n17 m0 m1 m2 m3 m4 m5 m6 m7
 obtain ⟨a0, a1, a2, a3, a4, a5, a6, a7, _⟩ := HJ.out.1.cells8
 obtain ⟨u0, u1, u2, u3, u4, u5, u6, u7, u8, u9, u10, u11, u12, u13, u14, u15, u16, u17⟩ := HJ.out.2.1.cells9
 obtain ⟨v0, v1, v2, v3, v4, v5, v6, v7, v8, _⟩ := HJ.out.2.2.1.cells9
 go_wp2_with fail
 have hr1 : r = ((false, 0, 0), rb, true, false, false) := by rw [HX.out]; rfl
 exact jOf_ret rfl (HJ.out.2.1.stores [.bool false, .slice none 0 0, .slice none 0 0, .bool s4, .slice p4 k4 c4, .slice q4 l4 d4, .bool true, .bool false, .bool false] rfl nd9) ⟨_, _, _, _, _, _, _, _, _, _, _, _, _, _, _, _, _, rfl, hid ⟨_, _, _, _, _, _, _, _, _, _, _, _, _, _, _, _, _, rfl, by rw [hr1]; exact QNorm.zero _, by rw [hr1]; exact QNorm.stores (k := 0) (l := [.bool false, .slice none 0 0, .slice none 0 0, .bool s4, .slice p4 k4 c4, .slice q4 l4 d4, .bool true, .bool false, .bool false]) HS.out HJ.out.2.1 nd9, by rw [hr1], by rw [hr1], by rw [hr1]⟩, Below.stores (k := 0) (l := [.bool false, .slice none 0 0, .slice none 0 0, .bool s4, .slice p4 k4 c4, .slice q4 l4 d4, .bool true, .bool false, .bool false]) HJ.out.2.2.2 (by omega)⟩
theorem jOf_ft (s1 : Bool) (p1 : Option Addr) (k1 c1 : Nat) (q1 : Option Addr) (l1 d1 : Nat) (sz1 : Bool) (pz1 : Option Addr) (kz1 cz1 : Nat) (qz1 : Option Addr) (lz1 dz1 : Nat) (a b : Bool × Nat × Nat) (w : World) (ha : NRep w (.agg #[.bool s1, .slice p1 k1 c1, .slice q1 l1 d1]) a) (hb : NRep w (.agg #[.bool sz1, .slice pz1 kz1 cz1, .slice qz1 lz1 dz1]) b) (h1 : large a.2.1 a.2.2 = false) (h2 : large b.2.1 b.2.2 = false) :
  Calls Tryz.prog 90 #[.agg #[.bool s1, .slice p1 k1 c1, .slice q1 l1 d1, .bool sz1, .slice pz1 kz1 cz1, .slice qz1 lz1 dz1, .bool false, .bool true]] w fun e w' => ∃ s2 p2 k2 c2 q2 l2 d2 sz2 pz2 kz2 cz2 qz2 lz2 dz2 x2 y2 e2, e = .returned (.agg #[.bool s2, .slice p2 k2 c2, .slice q2 l2 d2, .bool sz2, .slice pz2 kz2 cz2, .slice qz2 lz2 dz2, .bool x2, .bool y2, .bool e2]) ∧ Hid (JRep w' (.agg #[.bool s2, .slice p2 k2 c2, .slice q2 l2 d2, .bool sz2, .slice pz2 kz2 cz2, .slice qz2 lz2 dz2, .bool x2, .bool y2, .bool e2]) (jof (a, b, false, true))) ∧ Below w.heap.size w w' := by
 have HL := hid (fun (W : World) (hW : Below w.heap.size w W) => rOfF_any (.agg #[.bool s1, .slice p1 k1 c1, .slice q1 l1 d1]) a W (ha.below hW) h1)
 have HH := hid (fun (W : World) (hW : Below w.heap.size w W) => rOfF_any (.agg #[.bool sz1, .slice pz1 kz1 cz1, .slice qz1 lz1 dz1]) b W (hb.below hW) h2)
 have hbx := fr_bd h1
 have hby := fr_bd h2
 have HCm := hid (fun (W : World) (v1 v2 : Value) (q1 : QNorm W v1 (fr a)) (q2 : QNorm W v2 (fr b)) => rCmp_any v1 v2 (fr a) (fr b) 128 W q1 q2 (lt_W_B6 hbx.1 (by omega)) (lt_W_B6 hbx.2 (by omega)) (lt_W_B6 hby.1 (by omega)) (lt_W_B6 hby.2 (by omega)) (by omega) (frac_pos (den1_pos _)) (frac_pos (den1_pos _)))
 clear ha hb h1 h2 hbx hby
 obtain ⟨ra, hra⟩ : ∃ r, r = fr a := ⟨_, rfl⟩
 obtain ⟨rb, hrb⟩ : ∃ r, r = fr b := ⟨_, rfl⟩
 obtain ⟨rc, hrc⟩ : ∃ r, r = fcmp (fr a) (fr b) := ⟨_, rfl⟩
 have hj : jof (a, b, false, true) = if !false && !true && decide (0 < rc) then jnone else (if false then (false, 0, 0) else ra, if true then (false, 0, 0) else rb, false, true, false) := by
  rw [hra, hrb, hrc]; rfl
 rw [hj]
 rw [← hrc, ← hra, ← hrb] at HCm
 rw [← hra] at HL
 rw [← hrb] at HH
 clear hj hra hrb hrc
 obtain ⟨r, hr⟩ : ∃ r, r = (if !false && !true && decide (0 < rc) then jnone else (if false then (false, 0, 0) else ra, if true then (false, 0, 0) else rb, false, true, false)) := ⟨_, rfl⟩
 rw [← hr]
 have HX := hid hr
 clear hr
 go_enter Tryz.func90, Tryz.ntmps90
 go_wp2_with fail
 generalize hA : World.alloc _ _ = W0
 have HV := hid (pre3_o hA nd8 nd9 nd9)
 clear hA
 refine (HL.out _ HV.out.2.2.2).mono ?_
 rintro e w1 ⟨s3, p3, k3, c3, q3, l3, d3, rfl, hF, hB⟩
 have HK := hid (And.intro (HV.out.1.below hB) (And.intro (HV.out.2.1.below hB) (And.intro (HV.out.2.2.1.below hB) (HV.out.2.2.2.trans (hB.mono HV.out.2.2.2.size)))))
 clear hB
 obtain ⟨n0, n1, n2, n3, n4, n5, n6, n7, n8, n9, n10, n11, n12, n13, n14, n15, n16, n17⟩ := HK.out.2.2.1.cells9
 obtain ⟨m0, m1, m2, m3, m4, m5, m6, m7, _⟩ := HK.out.1.cells8
 go_upto_region 5 with fail
 have HI : Box (((w1.setCell ⟨w.heap.size + 1 + 1, 0, none⟩ (.bool s3)).setCell ⟨w.heap.size + 1 + 1, 1, none⟩ (.slice p3 k3 c3)).setCell ⟨w.heap.size + 1 + 1, 2, none⟩ (.slice q3 l3 d3)) (w.heap.size + 1 + 1) #[.bool s3, .slice p3 k3 c3, .slice q3 l3 d3, .bool false, .slice none 0 0, .slice none 0 0, .bool false, .bool false, .bool false] := ((HK.out.2.2.1.set 0 (.bool s3) trivial).set 1 (.slice p3 k3 c3) trivial).set 2 (.slice q3 l3 d3) trivial
 have HJ := hid (And.intro (show Box (((w1.setCell ⟨w.heap.size + 1 + 1, 0, none⟩ (.bool s3)).setCell ⟨w.heap.size + 1 + 1, 1, none⟩ (.slice p3 k3 c3)).setCell ⟨w.heap.size + 1 + 1, 2, none⟩ (.slice q3 l3 d3)) w.heap.size _ from Box.stores_other (k := 0) (l := [.bool s3, .slice p3 k3 c3, .slice q3 l3 d3]) HK.out.1 (by omega)) (And.intro (show Box (((w1.setCell ⟨w.heap.size + 1 + 1, 0, none⟩ (.bool s3)).setCell ⟨w.heap.size + 1 + 1, 1, none⟩ (.slice p3 k3 c3)).setCell ⟨w.heap.size + 1 + 1, 2, none⟩ (.slice q3 l3 d3)) (w.heap.size + 1) _ from Box.stores_other (k := 0) (l := [.bool s3, .slice p3 k3 c3, .slice q3 l3 d3]) HK.out.2.1 (by omega)) (And.intro HI (show Below w.heap.size w (((w1.setCell ⟨w.heap.size + 1 + 1, 0, none⟩ (.bool s3)).setCell ⟨w.heap.size + 1 + 1, 1, none⟩ (.slice p3 k3 c3)).setCell ⟨w.heap.size + 1 + 1, 2, none⟩ (.slice q3 l3 d3)) from Below.stores (k := 0) (l := [.bool s3, .slice p3 k3 c3, .slice q3 l3 d3]) HK.out.2.2.2 (by omega)))))
 have HS := hid (show QNorm (((w1.setCell ⟨w.heap.size + 1 + 1, 0, none⟩ (.bool s3)).setCell ⟨w.heap.size + 1 + 1, 1, none⟩ (.slice p3 k3 c3)).setCell ⟨w.heap.size + 1 + 1, 2, none⟩ (.slice q3 l3 d3)) (.agg #[.bool s3, .slice p3 k3 c3, .slice q3 l3 d3]) ra from QNorm.stores (k := 0) (l := [.bool s3, .slice p3 k3 c3, .slice q3 l3 d3]) hF.out HK.out.2.2.1 nd3)
 clear HI
 generalize (((w1.setCell ⟨w.heap.size + 1 + 1, 0, none⟩ (.bool s3)).setCell ⟨w.heap.size + 1 + 1, 1, none⟩ (.slice p3 k3 c3)).setCell ⟨w.heap.size + 1 + 1, 2, none⟩ (.slice q3 l3 d3)) = W1 at *
 clear n0 n1 n2 n3 n4 n5 n6 n7 n8 n9 n10 n11 n12 n13 n14 n15 n16 n17 m0 m1 m2 m3 m4 m5 m6 m7
 obtain ⟨n0, n1, n2, n3, n4, n5, n6, n7, n8, n9, n10, n11, n12, n13, n14, n15, n16, n17⟩ := HJ.out.2.2.1.cells9
 obtain ⟨m0, m1, m2, m3, m4, m5, m6, m7, _⟩ := HJ.out.1.cells8
 go_upto_region 8 with fail
 have HI : Box (W1.setCell ⟨w.heap.size + 1 + 1, 7, none⟩ (.bool true)) (w.heap.size + 1 + 1) #[.bool s3, .slice p3 k3 c3, .slice q3 l3 d3, .bool false, .slice none 0 0, .slice none 0 0, .bool false, .bool true, .bool false] := HJ.out.2.2.1.set 7 (.bool true) trivial
 have HL2 := hid (And.intro (show Box (W1.setCell ⟨w.heap.size + 1 + 1, 7, none⟩ (.bool true)) w.heap.size _ from Box.stores_other (k := 7) (l := [.bool true]) HJ.out.1 (by omega)) (And.intro (show Box (W1.setCell ⟨w.heap.size + 1 + 1, 7, none⟩ (.bool true)) (w.heap.size + 1) _ from Box.stores_other (k := 7) (l := [.bool true]) HJ.out.2.1 (by omega)) (And.intro HI (show Below w.heap.size w (W1.setCell ⟨w.heap.size + 1 + 1, 7, none⟩ (.bool true)) from Below.stores (k := 7) (l := [.bool true]) HJ.out.2.2.2 (by omega)))))
 have HS2 := hid (show QNorm (W1.setCell ⟨w.heap.size + 1 + 1, 7, none⟩ (.bool true)) (.agg #[.bool s3, .slice p3 k3 c3, .slice q3 l3 d3]) ra from QNorm.stores (k := 7) (l := [.bool true]) HS.out HJ.out.2.2.1 nd1)
 clear HI
 generalize (W1.setCell ⟨w.heap.size + 1 + 1, 7, none⟩ (.bool true)) = W2 at *
 clear n0 n1 n2 n3 n4 n5 n6 n7 n8 n9 n10 n11 n12 n13 n14 n15 n16 n17 m0 m1 m2 m3 m4 m5 m6 m7
 obtain ⟨a0, a1, a2, a3, a4, a5, a6, a7, _⟩ := HL2.out.1.cells8
 obtain ⟨u0, u1, u2, u3, u4, u5, u6, u7, u8, u9, u10, u11, u12, u13, u14, u15, u16, u17⟩ := HL2.out.2.1.cells9
 obtain ⟨v0, v1, v2, v3, v4, v5, v6, v7, v8, _⟩ := HL2.out.2.2.1.cells9
 go_wp2_with fail
 have hr1 : r = (ra, (false, 0, 0), false, true, false) := by rw [HX.out]; rfl
 exact jOf_ret rfl (HL2.out.2.1.stores [.bool s3, .slice p3 k3 c3, .slice q3 l3 d3, .bool false, .slice none 0 0, .slice none 0 0, .bool false, .bool true, .bool false] rfl nd9) ⟨_, _, _, _, _, _, _, _, _, _, _, _, _, _, _, _, _, rfl, hid ⟨_, _, _, _, _, _, _, _, _, _, _, _, _, _, _, _, _, rfl, by rw [hr1]; exact QNorm.stores (k := 0) (l := [.bool s3, .slice p3 k3 c3, .slice q3 l3 d3, .bool false, .slice none 0 0, .slice none 0 0, .bool false, .bool true, .bool false]) HS2.out HL2.out.2.1 nd9, by rw [hr1]; exact QNorm.zero _, by rw [hr1], by rw [hr1], by rw [hr1]⟩, Below.stores (k := 0) (l := [.bool s3, .slice p3 k3 c3, .slice q3 l3 d3, .bool false, .slice none 0 0, .slice none 0 0, .bool false, .bool true, .bool false]) HL2.out.2.2.2 (by omega)⟩
theorem jOf_any (s1 : Bool) (p1 : Option Addr) (k1 c1 : Nat) (q1 : Option Addr) (l1 d1 : Nat) (sz1 : Bool) (pz1 : Option Addr) (kz1 cz1 : Nat) (qz1 : Option Addr) (lz1 dz1 : Nat) (x1 : Bool) (y1 : Bool) (a b : Bool × Nat × Nat) (w : World) (ha : NRep w (.agg #[.bool s1, .slice p1 k1 c1, .slice q1 l1 d1]) a) (hb : NRep w (.agg #[.bool sz1, .slice pz1 kz1 cz1, .slice qz1 lz1 dz1]) b) (h1 : large a.2.1 a.2.2 = false) (h2 : large b.2.1 b.2.2 = false) :
  Calls Tryz.prog 90 #[.agg #[.bool s1, .slice p1 k1 c1, .slice q1 l1 d1, .bool sz1, .slice pz1 kz1 cz1, .slice qz1 lz1 dz1, .bool x1, .bool y1]] w fun e w' => ∃ s2 p2 k2 c2 q2 l2 d2 sz2 pz2 kz2 cz2 qz2 lz2 dz2 x2 y2 e2, e = .returned (.agg #[.bool s2, .slice p2 k2 c2, .slice q2 l2 d2, .bool sz2, .slice pz2 kz2 cz2, .slice qz2 lz2 dz2, .bool x2, .bool y2, .bool e2]) ∧ Hid (JRep w' (.agg #[.bool s2, .slice p2 k2 c2, .slice q2 l2 d2, .bool sz2, .slice pz2 kz2 cz2, .slice qz2 lz2 dz2, .bool x2, .bool y2, .bool e2]) (jof (a, b, x1, y1))) ∧ Below w.heap.size w w' := by
 cases x1 <;> cases y1
 ·exact jOf_ff _ _ _ _ _ _ _ _ _ _ _ _ _ _ a b w ha hb h1 h2
 ·exact jOf_ft _ _ _ _ _ _ _ _ _ _ _ _ _ _ a b w ha hb h1 h2
 ·exact jOf_tf _ _ _ _ _ _ _ _ _ _ _ _ _ _ a b w ha hb h1 h2
 ·exact jOf_tt _ _ _ _ _ _ _ _ _ _ _ _ _ _ a b w ha hb h1 h2
end Go.Proofs.YtheojajaefjecaaGreatDoor
namespace Go.Proofs.YtheojajaefjecaaGreatDoor
open Go.RowKit Dg
def jzero : (Bool × Nat × Nat) × (Bool × Nat × Nat) × Bool × Bool × Bool := ((false, 0, 0), (false, 0, 0), false, false, false)
theorem JRep.zero (w : World) : JRep w (.agg #[.bool false, .slice none 0 0, .slice none 0 0, .bool false, .slice none 0 0, .slice none 0 0, .bool false, .bool false, .bool false]) jzero :=
 ⟨_, _, _, _, _, _, _, _, _, _, _, _, _, _, _, _, _, rfl, QNorm.zero _, QNorm.zero _, rfl, rfl, rfl⟩
theorem jOne_ret {W : World} {B : Nat} {a0 a1 a2 a3 a4 a5 a6 a7 a8 ev : Value} {tm : Array Value} {R : Ending → World → Prop} (h2 : tm[4]?.getD undef = .pointer (some ⟨B, 0, none⟩)) (h3 : tm[5]?.getD undef = ev) (hV : Box W B #[a0, a1, a2, a3, a4, a5, a6, a7, a8]) (hR : R (.returned (.tuple #[.agg #[a0, a1, a2, a3, a4, a5, a6, a7, a8], ev])) W) :
  bodyPost Tryz.prog Tryz.f33 R .ret { tmps := tm, defers := [] } W := by
 obtain ⟨g0, g1, g2, g3, g4, g5, g6, g7, g8, _⟩ := hV.cells9
 exact bodyPost_ret (v := .tuple #[.agg #[a0, a1, a2, a3, a4, a5, a6, a7, a8], ev]) (by simp [results, Tryz.results33, go_sem, h2, h3, g0, g1, g2, g3, g4, g5, g6, g7, g8]) rfl hR
theorem jOne_large (s1 : Bool) (p1 : Option Addr) (k1 c1 : Nat) (q1 : Option Addr) (l1 d1 : Nat) (sz1 : Bool) (pz1 : Option Addr) (kz1 cz1 : Nat) (qz1 : Option Addr) (lz1 dz1 : Nat) (x1 : Bool) (y1 : Bool) (a b : Bool × Nat × Nat) (p : Int) (w : World) (ha : NRep w (.agg #[.bool s1, .slice p1 k1 c1, .slice q1 l1 d1]) a) (hb : NRep w (.agg #[.bool sz1, .slice pz1 kz1 cz1, .slice qz1 lz1 dz1]) b) (h : ilarge (a, b, x1, y1) = true) :
  Calls Tryz.prog 33 #[.agg #[.bool s1, .slice p1 k1 c1, .slice q1 l1 d1, .bool sz1, .slice pz1 kz1 cz1, .slice qz1 lz1 dz1, .bool x1, .bool y1], .int .i64 p] w fun e w' => e = .returned (.tuple #[.agg #[.bool false, .slice none 0 0, .slice none 0 0, .bool false, .slice none 0 0, .slice none 0 0, .bool false, .bool false, .bool false], .int .i64 1]) ∧ Below w.heap.size w w' := by
 have HL := hid (fun (W : World) (hW : Below w.heap.size w W) => jLarge_any s1 p1 k1 c1 q1 l1 d1 sz1 pz1 kz1 cz1 qz1 lz1 dz1 x1 y1 a b W (ha.below hW) (hb.below hW))
 rw [h] at HL
 clear ha hb h
 go_enter Tryz.func33, Tryz.ntmps33
 go_wp2_with fail
 generalize hA : World.alloc _ _ = W0
 have HV := hid (pre2_o hA nd8 nd9)
 clear hA
 refine (HL.out _ HV.out.2.2).mono ?_
 rintro e w1 ⟨rfl, hB1⟩
 have HE := hid (And.intro (HV.out.2.1.below hB1) (HV.out.2.2.trans (hB1.mono HV.out.2.2.size)))
 clear hB1
 obtain ⟨g0, g1, g2, g3, g4, g5, g6, g7, g8, f0, f1, f2, f3, f4, f5, f6, f7, f8⟩ := HE.out.1.cells9
 go_wp2_with fail
 exact jOne_ret rfl rfl (HE.out.1.stores [.bool false, .slice none 0 0, .slice none 0 0, .bool false, .slice none 0 0, .slice none 0 0, .bool false, .bool false, .bool false] rfl nd9) ⟨rfl, Below.stores (k := 0) (l := [.bool false, .slice none 0 0, .slice none 0 0, .bool false, .slice none 0 0, .slice none 0 0, .bool false, .bool false, .bool false]) HE.out.2 (by omega)⟩
theorem jOne_ok (s1 : Bool) (p1 : Option Addr) (k1 c1 : Nat) (q1 : Option Addr) (l1 d1 : Nat) (sz1 : Bool) (pz1 : Option Addr) (kz1 cz1 : Nat) (qz1 : Option Addr) (lz1 dz1 : Nat) (x1 : Bool) (y1 : Bool) (a b : Bool × Nat × Nat) (p : Int) (w : World) (ha : NRep w (.agg #[.bool s1, .slice p1 k1 c1, .slice q1 l1 d1]) a) (hb : NRep w (.agg #[.bool sz1, .slice pz1 kz1 cz1, .slice qz1 lz1 dz1]) b) (h1 : large a.2.1 a.2.2 = false) (h2 : large b.2.1 b.2.2 = false) (h0 : 0 ≤ p) (h128 : p ≤ 128) :
  Calls Tryz.prog 33 #[.agg #[.bool s1, .slice p1 k1 c1, .slice q1 l1 d1, .bool sz1, .slice pz1 kz1 cz1, .slice qz1 lz1 dz1, .bool x1, .bool y1], .int .i64 p] w fun e w' => ∃ s2 p2 k2 c2 q2 l2 d2 sz2 pz2 kz2 cz2 qz2 lz2 dz2 x2 y2 e2, e = .returned (.tuple #[.agg #[.bool s2, .slice p2 k2 c2, .slice q2 l2 d2, .bool sz2, .slice pz2 kz2 cz2, .slice qz2 lz2 dz2, .bool x2, .bool y2, .bool e2], .int .i64 0]) ∧ Hid (JRep w' (.agg #[.bool s2, .slice p2 k2 c2, .slice q2 l2 d2, .bool sz2, .slice pz2 kz2 cz2, .slice qz2 lz2 dz2, .bool x2, .bool y2, .bool e2]) (jof (a, b, x1, y1))) ∧ Below w.heap.size w w' := by
 have HL := hid (fun (W : World) (hW : Below w.heap.size w W) => jLarge_any s1 p1 k1 c1 q1 l1 d1 sz1 pz1 kz1 cz1 qz1 lz1 dz1 x1 y1 a b W (ha.below hW) (hb.below hW))
 have hf : ilarge (a, b, x1, y1) = false := by
  show (large a.2.1 a.2.2 || large b.2.1 b.2.2) = false
  rw [h1, h2]; rfl
 rw [hf] at HL
 have HO := hid (fun (W : World) (hW : Below w.heap.size w W) => jOf_any s1 p1 k1 c1 q1 l1 d1 sz1 pz1 kz1 cz1 qz1 lz1 dz1 x1 y1 a b W (ha.below hW) (hb.below hW) h1 h2)
 obtain ⟨r, hr⟩ : ∃ r, r = jof (a, b, x1, y1) := ⟨_, rfl⟩
 rw [← hr] at HO ⊢
 clear ha hb h1 h2 hf hr
 go_enter Tryz.func33, Tryz.ntmps33
 go_wp2_with fail
 generalize hA : World.alloc _ _ = W0
 have HV := hid (pre2_o hA nd8 nd9)
 clear hA
 refine (HL.out _ HV.out.2.2).mono ?_
 rintro e w1 ⟨rfl, hB1⟩
 have HE := hid hB1
 obtain ⟨m0, m1, m2, m3, m4, m5, m6, m7, _⟩ := (HV.out.1.below hB1).cells8
 clear hB1
 go_wp2_with fail
 refine (HO.out _ (HV.out.2.2.trans (HE.out.mono HV.out.2.2.size))).mono ?_
 rintro e w2 ⟨s2, p2, k2, c2, q2, l2, d2, sz2, pz2, kz2, cz2, qz2, lz2, dz2, x2, y2, e2, rfl, hJ, hB2⟩
 have HE2 := hid (And.intro (HV.out.2.1.below (held_any HE.out hB2)) (HV.out.2.2.trans ((held_any HE.out hB2).mono HV.out.2.2.size)))
 clear hB2
 obtain ⟨g0, g1, g2, g3, g4, g5, g6, g7, g8, f0, f1, f2, f3, f4, f5, f6, f7, f8⟩ := HE2.out.1.cells9
 go_wp2_with fail
 exact jOne_ret rfl rfl (HE2.out.1.stores [.bool s2, .slice p2 k2 c2, .slice q2 l2 d2, .bool sz2, .slice pz2 kz2 cz2, .slice qz2 lz2 dz2, .bool x2, .bool y2, .bool e2] rfl nd9) ⟨s2, p2, k2, c2, q2, l2, d2, sz2, pz2, kz2, cz2, qz2, lz2, dz2, x2, y2, e2, rfl, hid (JRep.stores (k := 0) (l := [.bool s2, .slice p2 k2 c2, .slice q2 l2 d2, .bool sz2, .slice pz2 kz2 cz2, .slice qz2 lz2 dz2, .bool x2, .bool y2, .bool e2]) hJ.out HE2.out.1 nd9), Below.stores (k := 0) (l := [.bool s2, .slice p2 k2 c2, .slice q2 l2 d2, .bool sz2, .slice pz2 kz2 cz2, .slice qz2 lz2 dz2, .bool x2, .bool y2, .bool e2]) HE2.out.2 (by omega)⟩
def QOk (t : Bool × Nat × Nat) : Prop := IsFr t ∧ t.2.1 < B16 ^ 1000 ∧ t.2.2 < B16 ^ 1000
theorem rcmp_ok (v1 v2 : Value) (x y : Bool × Nat × Nat) (w : World) (q1 : QNorm w v1 x) (q2 : QNorm w v2 y) (hx : QOk x) (hy : QOk y) :
  Calls Tryz.prog 119 #[v1, v2] w fun e w' => e = .returned (.int .i64 (fcmp x y)) ∧ Below w.heap.size w w' :=
 rCmp_any v1 v2 x y 1000 w q1 q2 hx.2.1 hx.2.2 hy.2.1 hy.2.2 (by omega) hx.1.pos hy.1.pos
theorem lt_b1000 {x : Nat} (h : x < W32 ^ 64) : x < B16 ^ 1000 := by
 generalize hA : 1000 = A
 exact lt_W_B6 h (by omega)
theorem qok_fr {t : Bool × Nat × Nat} (h : large t.2.1 t.2.2 = false) : QOk (fr t) := ⟨IsFr.fr t, lt_b1000 (fr_bd h).1, lt_b1000 (fr_bd h).2⟩
theorem cmpI_nonpos {a b : Int} : cmpI a b ≤ 0 ↔ a ≤ b := by
 unfold cmpI
 constructor
 ·intro h
  by_cases h1 : a < b
  ·omega
  ·rw [if_neg h1] at h
   by_cases h2 : b < a
   ·rw [if_pos h2] at h; omega
   ·omega
 ·intro h
  by_cases h1 : a < b
  ·rw [if_pos h1]; omega
  ·rw [if_neg h1, if_neg (by omega)]; omega
theorem fcmp_nonpos {a b : Bool × Nat × Nat} : fcmp a b ≤ 0 ↔ sv a.1 a.2.1 * b.2.2 ≤ sv b.1 b.2.1 * a.2.2 := by
 unfold fcmp
 exact cmpI_nonpos
end Go.Proofs.YtheojajaefjecaaGreatDoor
