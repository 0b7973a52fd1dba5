/- Sets of the reference: as an interval of the interface. Sets of the reference: Canonical. -/
import Derived.Test.YtheojajaefjecaaGreatDoorHasT
import Derived.Test.YtheojajaefjecaaGreatDoorEndsB
set_option maxHeartbeats 4000000
set_option maxRecDepth 100000
namespace Go.Proofs.YtheojajaefjecaaGreatDoor
open Go.RowKit Dg
def jrat (t : Bool × Nat × Nat) : Bool × Nat × Nat := (t.1 && decide (t.2.1 ≠ 0), t.2.1, den0' t.2.2)
def japi (r : (Bool × Nat × Nat) × (Bool × Nat × Nat) × Bool × Bool × Bool) : (Bool × Nat × Nat) × (Bool × Nat × Nat) × Bool × Bool :=
 if r.2.2.2.2 then ((false, 1, 0), (false, 0, 0), false, false) else (jrat r.1, jrat r.2.1, r.2.2.1, r.2.2.2.1)
def JBd (r : (Bool × Nat × Nat) × (Bool × Nat × Nat) × Bool × Bool × Bool) : Prop :=
 (r.1.2.1 < B16 ^ 1000000000 ∧ r.1.2.2 < B16 ^ 1000000000) ∧ r.2.1.2.1 < B16 ^ 1000000000 ∧ r.2.1.2.2 < B16 ^ 1000000000
theorem jrat_any (v : Value) (t : Bool × Nat × Nat) (w : World) (h : QNorm w v t) (hn : t.2.1 < B16 ^ 1000000000) (hd : t.2.2 < B16 ^ 1000000000) :
  Calls Tryz.prog 29 #[v] w fun e w' => ∃ s1 p1 k1 c1 q1 l1 d1, e = .returned (.agg #[.bool s1, .slice p1 k1 c1, .slice q1 l1 d1]) ∧ Hid (FNorm w' (.agg #[.bool s1, .slice p1 k1 c1, .slice q1 l1 d1]) (jrat t)) ∧ Below w.heap.size w w' :=
 fopen (t := jrat t) ((rRat_any v _ _ _ w h hn hd).mono fun _ _ ⟨v', he, hF, hB⟩ => ⟨v', he, hF, hB⟩)
theorem b16_one : 1 < B16 ^ 1000000000 := lt_16 (a := 1) (by rw [Nat.pow_one]; unfold B16; omega) (by omega)
theorem b16_0 : 0 < B16 ^ 1000000000 := Nat.lt_trans Nat.zero_lt_one b16_one
theorem jrat1 (v : Value) (w : World) (h : QNorm w v (false, 1, 1)) :
  Calls Tryz.prog 29 #[v] w fun e w' => ∃ s1 p1 k1 c1 q1 l1 d1, e = .returned (.agg #[.bool s1, .slice p1 k1 c1, .slice q1 l1 d1]) ∧ Hid (FNorm w' (.agg #[.bool s1, .slice p1 k1 c1, .slice q1 l1 d1]) (false, 1, 0)) ∧ Below w.heap.size w w' :=
 fopen (t := (false, 1, 0)) ((rRat_any v false 1 1 w h b16_one b16_one).mono fun _ _ ⟨v', he, hF, hB⟩ => ⟨v', he, hF, hB⟩)
theorem jint1 (w : World) : Calls Tryz.prog 30 #[.int .i64 1] w fun e w' => ∃ v', e = .returned v' ∧ QNorm w' v' (false, 1, 1) ∧ Below w.heap.size w w' := by
 refine (rInt_any 1 w (by omega) (by omega)).mono ?_
 rintro e w' ⟨v', he, hF, hB⟩
 exact ⟨v', he, hF, hB⟩
theorem jApi_ret {W : World} {B : Nat} {a0 a1 a2 a3 a4 a5 a6 a7 : Value} {tm : Array Value} {R : Ending → World → Prop} (h2 : tm[2]?.getD undef = .pointer (some ⟨B, 0, none⟩)) (hV : Box W B #[a0, a1, a2, a3, a4, a5, a6, a7]) (hR : R (.returned (.agg #[a0, a1, a2, a3, a4, a5, a6, a7])) W) :
  bodyPost Tryz.prog Tryz.f50 R .ret { tmps := tm, defers := [] } W := by
 obtain ⟨g0, g1, g2, g3, g4, g5, g6, g7, _⟩ := hV.cells8
 exact bodyPost_ret (v := .agg #[a0, a1, a2, a3, a4, a5, a6, a7]) (by simp [results, Tryz.results50, go_sem, h2, g0, g1, g2, g3, g4, g5, g6, g7]) rfl hR
theorem jApi_some (s1 : Bool) (p1 : Option Addr) (k1 c1 : Nat) (q1 : Option Addr) (l1 d1 : Nat) (sz1 : Bool) (pz1 : Option Addr) (kz1 cz1 : Nat) (qz1 : Option Addr) (lz1 dz1 : Nat) (x1 : Bool) (y1 : Bool) (e1 : Bool) (x : (Bool × Nat × Nat) × (Bool × Nat × Nat) × Bool × Bool × Bool) (w : World) (h : JRep w (.agg #[.bool s1, .slice p1 k1 c1, .slice q1 l1 d1, .bool sz1, .slice pz1 kz1 cz1, .slice qz1 lz1 dz1, .bool x1, .bool y1, .bool e1]) x) (hx : JBd x) (he : x.2.2.2.2 = false) :
  Calls Tryz.prog 50 #[.agg #[.bool s1, .slice p1 k1 c1, .slice q1 l1 d1, .bool sz1, .slice pz1 kz1 cz1, .slice qz1 lz1 dz1, .bool x1, .bool y1, .bool e1]] w fun e w' => ∃ s3 p3 k3 c3 q3 l3 d3 sz3 pz3 kz3 cz3 qz3 lz3 dz3 x3 y3, e = .returned (.agg #[.bool s3, .slice p3 k3 c3, .slice q3 l3 d3, .bool sz3, .slice pz3 kz3 cz3, .slice qz3 lz3 dz3, .bool x3, .bool y3]) ∧ Hid (GRep w' (.agg #[.bool s3, .slice p3 k3 c3, .slice q3 l3 d3, .bool sz3, .slice pz3 kz3 cz3, .slice qz3 lz3 dz3, .bool x3, .bool y3]) (japi x)) ∧ Below w.heap.size w w' := by
 have h1 := JRep.parts s1 p1 k1 c1 q1 l1 d1 sz1 pz1 kz1 cz1 qz1 lz1 dz1 x1 y1 e1 h
 have HL := hid (fun (W : World) (hW : Below w.heap.size w W) => jrat_any (.agg #[.bool s1, .slice p1 k1 c1, .slice q1 l1 d1]) x.1 W (h1.1.below hW) hx.1.1 hx.1.2)
 have HH := hid (fun (W : World) (hW : Below w.heap.size w W) => jrat_any (.agg #[.bool sz1, .slice pz1 kz1 cz1, .slice qz1 lz1 dz1]) x.2.1 W (h1.2.1.below hW) hx.2.1 hx.2.2)
 obtain ⟨_, _, hi, hj, hee⟩ := h1
 rw [he] at hee
 subst hee
 obtain ⟨r, hr⟩ : ∃ r, r = japi x := ⟨_, rfl⟩
 obtain ⟨rl, hrl⟩ : ∃ r, r = jrat x.1 := ⟨_, rfl⟩
 obtain ⟨rh, hrh⟩ : ∃ r, r = jrat x.2.1 := ⟨_, rfl⟩
 rw [← hr]
 rw [← hrl] at HL
 rw [← hrh] at HH
 have HX : Hid (r = (rl, rh, x1, y1)) := hid (by rw [hr, hrl, hrh, hi, hj]; unfold japi; rw [he]; rfl)
 clear hr hrl hrh h hx he hi hj
 go_enter Tryz.func50, Tryz.ntmps50
 go_wp2_with fail
 generalize hA : World.alloc _ _ = W0
 have HV := hid (pre2_o hA nd9 nd8)
 clear hA
 have HQ := hid (QQ.i1 (cs := [.bool s1, .slice p1 k1 c1, .slice q1 l1 d1, .bool sz1, .slice pz1 kz1 cz1, .slice qz1 lz1 dz1, .bool x1, .bool y1, .bool false]) HV.out.1 HV.out.2.2)
 have HS := hid (fun (w' : World) (hb : QQ w [(w.heap.size, [.bool s1, .slice p1 k1 c1, .slice q1 l1 d1, .bool sz1, .slice pz1 kz1 cz1, .slice qz1 lz1 dz1, .bool x1, .bool y1, .bool false])] w') => hb.s_9)
 have HN : Hid (Apart [(w.heap.size, [.bool s1, .slice p1 k1 c1, .slice q1 l1 d1, .bool sz1, .slice pz1 kz1 cz1, .slice qz1 lz1 dz1, .bool x1, .bool y1, .bool false])] (w.heap.size + 1)) := hid (ne1 (by omega))
 have HI : Hid (w.heap.size ≤ w.heap.size + 1) := hid (by omega)
 go_region_held3 (fun w' => w'.cell? ⟨w.heap.size, 0, none⟩ = some (.bool s1) ∧ w'.cell? ⟨w.heap.size, 1, none⟩ = some (.slice p1 k1 c1) ∧ w'.cell? ⟨w.heap.size, 2, none⟩ = some (.slice q1 l1 d1) ∧ w'.cell? ⟨w.heap.size, 3, none⟩ = some (.bool sz1) ∧ w'.cell? ⟨w.heap.size, 4, none⟩ = some (.slice pz1 kz1 cz1) ∧ w'.cell? ⟨w.heap.size, 5, none⟩ = some (.slice qz1 lz1 dz1) ∧ w'.cell? ⟨w.heap.size, 6, none⟩ = some (.bool x1) ∧ w'.cell? ⟨w.heap.size, 7, none⟩ = some (.bool y1) ∧ w'.cell? ⟨w.heap.size, 8, none⟩ = some (.bool false) ∧ Hid (QQ w [(w.heap.size, [.bool s1, .slice p1 k1 c1, .slice q1 l1 d1, .bool sz1, .slice pz1 kz1 cz1, .slice qz1 lz1 dz1, .bool x1, .bool y1, .bool false])] w'))
  (first | (refine HS.out _ ?_; first | (with_reducible exact HQ.out.drew) | (with_reducible assumption) | (with_reducible refine QQ.st8 ?_ HN.out HI.out; assumption)))
  (first
   | (go_at_call_of 29 p1; refine (HL.out _ HQ.out.drew.bel).mono ?_; rintro e wa ⟨s4, p4, k4, c4, q4, l4, d4, rfl, hE1, hB1⟩; have hQ1 := HQ.out.drew.call hB1; have hV1 := (HV.out.2.1.drew).below hB1)
   | (go_at_call_of 29 pz1; refine (HH.out _ hQ1.bel).mono ?_; rintro e wb ⟨s5, p5, k5, c5, q5, l5, d5, rfl, hE2, hB2⟩; have hQ2 := hQ1.call hB2; have hV2 := hV1.below hB2; obtain ⟨g0, g1, g2, g3, g4, g5, g6, g7, f0, f1, f2, f3, f4, f5, f6, f7⟩ := hV2.cells8))
 rename_i hHeld
 clear hHeld
 have HE := hid (And.intro hV2 (And.intro (hE1.out.below hB2) (And.intro hE2.out hQ2.bel)))
 clear hQ1 hQ2 hV1 hV2 hB1 hB2 hE1 hE2
 go_wp2_with fail
 exact jApi_ret rfl (HE.out.1.stores [.bool s4, .slice p4 k4 c4, .slice q4 l4 d4, .bool s5, .slice p5 k5 c5, .slice q5 l5 d5, .bool x1, .bool y1] rfl nd8) ⟨_, _, _, _, _, _, _, _, _, _, _, _, _, _, _, _, rfl, hid ⟨_, _, _, _, _, _, _, _, _, _, _, _, _, _, _, _, rfl, by rw [HX.out]; exact FNorm.stores (k := 0) (l := [.bool s4, .slice p4 k4 c4, .slice q4 l4 d4, .bool s5, .slice p5 k5 c5, .slice q5 l5 d5, .bool x1, .bool y1]) HE.out.2.1 HE.out.1 nd8, by rw [HX.out]; exact FNorm.stores (k := 0) (l := [.bool s4, .slice p4 k4 c4, .slice q4 l4 d4, .bool s5, .slice p5 k5 c5, .slice q5 l5 d5, .bool x1, .bool y1]) HE.out.2.2.1 HE.out.1 nd8, by rw [HX.out], by rw [HX.out]⟩, Below.stores (k := 0) (l := [.bool s4, .slice p4 k4 c4, .slice q4 l4 d4, .bool s5, .slice p5 k5 c5, .slice q5 l5 d5, .bool x1, .bool y1]) HE.out.2.2.2 (Nat.le_succ _)⟩
theorem jApi_none (s1 : Bool) (p1 : Option Addr) (k1 c1 : Nat) (q1 : Option Addr) (l1 d1 : Nat) (sz1 : Bool) (pz1 : Option Addr) (kz1 cz1 : Nat) (qz1 : Option Addr) (lz1 dz1 : Nat) (x1 : Bool) (y1 : Bool) (e1 : Bool) (x : (Bool × Nat × Nat) × (Bool × Nat × Nat) × Bool × Bool × Bool) (w : World) (h : JRep w (.agg #[.bool s1, .slice p1 k1 c1, .slice q1 l1 d1, .bool sz1, .slice pz1 kz1 cz1, .slice qz1 lz1 dz1, .bool x1, .bool y1, .bool e1]) x) (he : x.2.2.2.2 = true) :
  Calls Tryz.prog 50 #[.agg #[.bool s1, .slice p1 k1 c1, .slice q1 l1 d1, .bool sz1, .slice pz1 kz1 cz1, .slice qz1 lz1 dz1, .bool x1, .bool y1, .bool e1]] w fun e w' => ∃ s3 p3 k3 c3 q3 l3 d3 sz3 pz3 kz3 cz3 qz3 lz3 dz3 x3 y3, e = .returned (.agg #[.bool s3, .slice p3 k3 c3, .slice q3 l3 d3, .bool sz3, .slice pz3 kz3 cz3, .slice qz3 lz3 dz3, .bool x3, .bool y3]) ∧ Hid (GRep w' (.agg #[.bool s3, .slice p3 k3 c3, .slice q3 l3 d3, .bool sz3, .slice pz3 kz3 cz3, .slice qz3 lz3 dz3, .bool x3, .bool y3]) (japi x)) ∧ Below w.heap.size w w' := by
 have hee := (JRep.parts s1 p1 k1 c1 q1 l1 d1 sz1 pz1 kz1 cz1 qz1 lz1 dz1 x1 y1 e1 h).2.2.2.2
 rw [he] at hee
 subst hee
 have hX : japi x = ((false, 1, 0), (false, 0, 0), false, false) := by unfold japi; rw [he]; rfl
 rw [hX]
 have HI := hid (fun (W : World) => jint1 W)
 have HR := hid (fun (W : World) (v : Value) (hv : QNorm W v (false, 1, 1)) => jrat1 v W hv)
 clear h he hX
 go_enter Tryz.func50, Tryz.ntmps50
 go_wp2_with fail
 generalize hA : World.alloc _ _ = W0
 have HV := hid (pre2_o hA nd9 nd8)
 clear hA
 refine (HI.out W0).mono ?_
 rintro e w1 ⟨v1, rfl, hF1, hB1⟩
 have HE := hid (And.intro (HV.out.2.1.below hB1) (HV.out.2.2.trans (hB1.mono HV.out.2.2.size)))
 clear hB1
 go_wp2_with fail
 refine (HR.out w1 v1 hF1).mono ?_
 rintro e w2 ⟨s4, p4, k4, c4, q4, l4, d4, rfl, hF, hB2⟩
 have HE2 := hid (And.intro (HE.out.1.below hB2) (HE.out.2.trans (hB2.mono HE.out.2.size)))
 clear hB2
 obtain ⟨g0, g1, g2, g3, g4, g5, g6, g7, f0, f1, f2, f3, f4, f5, f6, f7⟩ := HE2.out.1.cells8
 go_wp2_with fail
 exact jApi_ret rfl (HE2.out.1.stores [.bool s4, .slice p4 k4 c4, .slice q4 l4 d4, .bool false, .slice none 0 0, .slice none 0 0, .bool false, .bool false] rfl nd8) ⟨_, _, _, _, _, _, _, _, _, _, _, _, _, _, _, _, rfl, hid ⟨_, _, _, _, _, _, _, _, _, _, _, _, _, _, _, _, rfl, FNorm.stores (k := 0) (l := [.bool s4, .slice p4 k4 c4, .slice q4 l4 d4, .bool false, .slice none 0 0, .slice none 0 0, .bool false, .bool false]) hF.out HE2.out.1 nd8, FNorm.zero _, rfl, rfl⟩, Below.stores (k := 0) (l := [.bool s4, .slice p4 k4 c4, .slice q4 l4 d4, .bool false, .slice none 0 0, .slice none 0 0, .bool false, .bool false]) HE2.out.2 (Nat.le_succ _)⟩
theorem jApi_any (s1 : Bool) (p1 : Option Addr) (k1 c1 : Nat) (q1 : Option Addr) (l1 d1 : Nat) (sz1 : Bool) (pz1 : Option Addr) (kz1 cz1 : Nat) (qz1 : Option Addr) (lz1 dz1 : Nat) (x1 : Bool) (y1 : Bool) (e1 : Bool) (x : (Bool × Nat × Nat) × (Bool × Nat × Nat) × Bool × Bool × Bool) (w : World) (h : JRep w (.agg #[.bool s1, .slice p1 k1 c1, .slice q1 l1 d1, .bool sz1, .slice pz1 kz1 cz1, .slice qz1 lz1 dz1, .bool x1, .bool y1, .bool e1]) x) (hx : JBd x) :
  Calls Tryz.prog 50 #[.agg #[.bool s1, .slice p1 k1 c1, .slice q1 l1 d1, .bool sz1, .slice pz1 kz1 cz1, .slice qz1 lz1 dz1, .bool x1, .bool y1, .bool e1]] w fun e w' => ∃ s3 p3 k3 c3 q3 l3 d3 sz3 pz3 kz3 cz3 qz3 lz3 dz3 x3 y3, e = .returned (.agg #[.bool s3, .slice p3 k3 c3, .slice q3 l3 d3, .bool sz3, .slice pz3 kz3 cz3, .slice qz3 lz3 dz3, .bool x3, .bool y3]) ∧ Hid (GRep w' (.agg #[.bool s3, .slice p3 k3 c3, .slice q3 l3 d3, .bool sz3, .slice pz3 kz3 cz3, .slice qz3 lz3 dz3, .bool x3, .bool y3]) (japi x)) ∧ Below w.heap.size w w' := by
 by_cases he : x.2.2.2.2 = true
 ·exact jApi_none s1 p1 k1 c1 q1 l1 d1 sz1 pz1 kz1 cz1 qz1 lz1 dz1 x1 y1 e1 x w h he
 ·exact jApi_some s1 p1 k1 c1 q1 l1 d1 sz1 pz1 kz1 cz1 qz1 lz1 dz1 x1 y1 e1 x w h hx (by simpa using he)
end Go.Proofs.YtheojajaefjecaaGreatDoor
namespace Go.Proofs.YtheojajaefjecaaGreatDoor
open Go.RowKit Dg
theorem GRep.parts {w : World} (s : Bool) (p : Option Addr) (k c : Nat) (q : Option Addr) (l d : Nat) (sz : Bool) (pz : Option Addr) (kz cz : Nat) (qz : Option Addr) (lz dz : Nat) (x : Bool) (y : Bool) {i : (Bool × Nat × Nat) × (Bool × Nat × Nat) × Bool × Bool} (h : GRep w (.agg #[.bool s, .slice p k c, .slice q l d, .bool sz, .slice pz kz cz, .slice qz lz dz, .bool x, .bool y]) i) : FNorm w (.agg #[.bool s, .slice p k c, .slice q l d]) i.1 ∧ FNorm w (.agg #[.bool sz, .slice pz kz cz, .slice qz lz dz]) i.2.1 ∧ x = i.2.2.1 ∧ y = i.2.2.2 := by
 obtain ⟨s2, p2, k2, c2, q2, l2, d2, sz2, pz2, kz2, cz2, qz2, lz2, dz2, x2, y2, hv, h1, h2, h3⟩ := h
 have e := Value.agg.inj hv
 simp at e
 obtain ⟨rfl, ⟨rfl, rfl, rfl⟩, ⟨rfl, rfl, rfl⟩, rfl, ⟨rfl, rfl, rfl⟩, ⟨rfl, rfl, rfl⟩, rfl, rfl⟩ := e
 exact ⟨h1, h2, h3⟩
theorem jCanonical_eq (s1 : Bool) (p1 : Option Addr) (k1 c1 : Nat) (q1 : Option Addr) (l1 d1 : Nat) (sz1 : Bool) (pz1 : Option Addr) (kz1 cz1 : Nat) (qz1 : Option Addr) (lz1 dz1 : Nat) (x1 : Bool) (y1 : Bool) (i : (Bool × Nat × Nat) × (Bool × Nat × Nat) × Bool × Bool) (r : (Bool × Nat × Nat) × (Bool × Nat × Nat) × Bool × Bool × Bool) (w : World) (hx : x1 = i.2.2.1) (hy : y1 = i.2.2.2) (hF1 : FNorm w (.agg #[.bool s1, .slice p1 k1 c1, .slice q1 l1 d1]) i.1) (hF2 : FNorm w (.agg #[.bool sz1, .slice pz1 kz1 cz1, .slice qz1 lz1 dz1]) i.2.1) (hJ : japi r = i) (hBd : JBd r)
  (h1 : ∀ W, Below w.heap.size w W → Calls Tryz.prog 37 #[.agg #[.bool s1, .slice p1 k1 c1, .slice q1 l1 d1]] W fun e w' => e = .returned (.bool true) ∧ Below W.heap.size W w')
  (h2 : ∀ W, Below w.heap.size w W → Calls Tryz.prog 37 #[.agg #[.bool sz1, .slice pz1 kz1 cz1, .slice qz1 lz1 dz1]] W fun e w' => e = .returned (.bool true) ∧ Below W.heap.size W w')
  (h3 : ∀ W, Below w.heap.size w W → Calls Tryz.prog 90 #[.agg #[.bool s1, .slice p1 k1 c1, .slice q1 l1 d1, .bool sz1, .slice pz1 kz1 cz1, .slice qz1 lz1 dz1, .bool x1, .bool y1]] W fun e w' => ∃ s3 p3 k3 c3 q3 l3 d3 sz3 pz3 kz3 cz3 qz3 lz3 dz3 x3 y3 e3, e = .returned (.agg #[.bool s3, .slice p3 k3 c3, .slice q3 l3 d3, .bool sz3, .slice pz3 kz3 cz3, .slice qz3 lz3 dz3, .bool x3, .bool y3, .bool e3]) ∧ Hid (JRep w' (.agg #[.bool s3, .slice p3 k3 c3, .slice q3 l3 d3, .bool sz3, .slice pz3 kz3 cz3, .slice qz3 lz3 dz3, .bool x3, .bool y3, .bool e3]) r) ∧ Below W.heap.size W w')
  (h4 : ∀ W v v', FNorm W v i.1 → FNorm W v' i.1 → Calls Tryz.prog 122 #[v, v'] W fun e w' => e = .returned (.bool true) ∧ Below W.heap.size W w')
  (h5 : ∀ W v v', FNorm W v i.2.1 → FNorm W v' i.2.1 → Calls Tryz.prog 122 #[v, v'] W fun e w' => e = .returned (.bool true) ∧ Below W.heap.size W w') :
  Calls Tryz.prog 55 #[.agg #[.bool s1, .slice p1 k1 c1, .slice q1 l1 d1, .bool sz1, .slice pz1 kz1 cz1, .slice qz1 lz1 dz1, .bool x1, .bool y1]] w fun e w' => e = .returned (.bool true) ∧ Below w.heap.size w w' := by
 have H1 := hid h1
 have H2 := hid h2
 have H3 := hid h3
 have HA := hid (fun (W : World) (s3 : Bool) (p3 : Option Addr) (k3 c3 : Nat) (q3 : Option Addr) (l3 d3 : Nat) (sz3 : Bool) (pz3 : Option Addr) (kz3 cz3 : Nat) (qz3 : Option Addr) (lz3 dz3 : Nat) (x3 : Bool) (y3 : Bool) (e3 : Bool) (h : JRep W (.agg #[.bool s3, .slice p3 k3 c3, .slice q3 l3 d3, .bool sz3, .slice pz3 kz3 cz3, .slice qz3 lz3 dz3, .bool x3, .bool y3, .bool e3]) r) => jApi_any s3 p3 k3 c3 q3 l3 d3 sz3 pz3 kz3 cz3 qz3 lz3 dz3 x3 y3 e3 r W h hBd)
 rw [hJ] at HA
 have H4 := hid (fun (W : World) (hb : Below w.heap.size w W) (v : Value) (hv : FNorm W v i.1) => h4 W v (.agg #[.bool s1, .slice p1 k1 c1, .slice q1 l1 d1]) hv (hF1.below hb))
 have H5 := hid (fun (W : World) (hb : Below w.heap.size w W) (v : Value) (hv : FNorm W v i.2.1) => h5 W v (.agg #[.bool sz1, .slice pz1 kz1 cz1, .slice qz1 lz1 dz1]) hv (hF2.below hb))
 have HX := hid (And.intro hx hy)
 have hxx : (x1 == x1) = true := by simp
 have hyy : (y1 == y1) = true := by simp
 clear h1 h2 h3 h4 h5 hF1 hF2 hJ hBd hx hy
 go_enter Tryz.func55, Tryz.ntmps55
 go_wp2_with fail
 generalize hA : World.alloc _ _ = W0
 have HV := hid (pre1_o hA nd8)
 clear hA
 refine (H1.out _ HV.out.2).mono ?_
 rintro e w1 ⟨rfl, hB1⟩
 have HE := hid (And.intro (HV.out.1.below hB1) (HV.out.2.trans (hB1.mono HV.out.2.size)))
 clear hB1
 obtain ⟨m0, m1, m2, m3, m4, m5, m6, m7, _⟩ := HE.out.1.cells8
 go_wp2_with fail
 refine (H2.out _ HE.out.2).mono ?_
 rintro e w2 ⟨rfl, hB2⟩
 have HE2 := hid (And.intro (HE.out.1.below hB2) (HE.out.2.trans (hB2.mono HE.out.2.size)))
 clear hB2 m0 m1 m2 m3 m4 m5 m6 m7
 obtain ⟨m0, m1, m2, m3, m4, m5, m6, m7, _⟩ := HE2.out.1.cells8
 go_wp2_with fail
 refine (H3.out _ HE2.out.2).mono ?_
 rintro e w3 ⟨s3, p3, k3, c3, q3, l3, d3, sz3, pz3, kz3, cz3, qz3, lz3, dz3, x3, y3, e3, rfl, hJ, hB3⟩
 have HE3 := hid (And.intro (HE2.out.1.below hB3) (HE2.out.2.trans (hB3.mono HE2.out.2.size)))
 clear hB3 m0 m1 m2 m3 m4 m5 m6 m7
 go_wp2_with fail
 refine (HA.out _ s3 p3 k3 c3 q3 l3 d3 sz3 pz3 kz3 cz3 qz3 lz3 dz3 x3 y3 e3 hJ.out).mono ?_
 rintro e w4 ⟨s4, p4, k4, c4, q4, l4, d4, sz4, pz4, kz4, cz4, qz4, lz4, dz4, x4, y4, rfl, hG, hB4⟩
 have HE4 := hid (And.intro (HE3.out.1.below hB4) (HE3.out.2.trans (hB4.mono HE3.out.2.size)))
 clear hB4 hJ
 have hP := GRep.parts s4 p4 k4 c4 q4 l4 d4 sz4 pz4 kz4 cz4 qz4 lz4 dz4 x4 y4 hG.out
 obtain ⟨hq1, hq2, hx4, hy4⟩ := hP
 obtain rfl : x4 = x1 := hx4.trans HX.out.1.symm
 obtain rfl : y4 = y1 := hy4.trans HX.out.2.symm
 have HQ := hid (And.intro hq1 hq2)
 clear hq1 hq2 hx4 hy4 HX hG
 go_upto_region 4 with fail
 have HN := hid (pre1 w4 [.bool s4, .slice p4 k4 c4, .slice q4 l4 d4, .bool sz4, .slice pz4 kz4 cz4, .slice qz4 lz4 dz4, .bool x4, .bool y4] 26 nd8)
 have hlt : w.heap.size < w4.heap.size := HE4.out.1.lt
 generalize w4.alloc (.cells #[.bool s4, .slice p4 k4 c4, .slice q4 l4 d4, .bool sz4, .slice pz4 kz4 cz4, .slice qz4 lz4 dz4, .bool x4, .bool y4] 26) = W4 at *
 have HE5 := hid (And.intro (HE4.out.1.below HN.out.2) (HE4.out.2.trans (HN.out.2.mono HE4.out.2.size)))
 have HQ5 := hid (And.intro (FNorm.below HQ.out.1 HN.out.2) (FNorm.below HQ.out.2 HN.out.2))
 clear HQ
 obtain ⟨m0, m1, m2, m3, m4, m5, m6, m7, _⟩ := HE5.out.1.cells8
 obtain ⟨n0, n1, n2, n3, n4, n5, n6, n7, _⟩ := HN.out.1.cells8
 go_wp2_with fail
 refine (H4.out _ HE5.out.2 _ HQ5.out.1).mono ?_
 rintro e w5 ⟨rfl, hB5⟩
 have HE6 := hid (And.intro (HE5.out.1.below hB5) (HE5.out.2.trans (hB5.mono HE5.out.2.size)))
 have HN6 := hid (HN.out.1.below hB5)
 have HQ6 := hid (FNorm.below HQ5.out.2 hB5)
 clear hB5 m0 m1 m2 m3 m4 m5 m6 m7 n0 n1 n2 n3 n4 n5 n6 n7 HQ5
 obtain ⟨m0, m1, m2, m3, m4, m5, m6, m7, _⟩ := HE6.out.1.cells8
 obtain ⟨n0, n1, n2, n3, n4, n5, n6, n7, _⟩ := HN6.out.cells8
 go_wp2_with fail
 refine (H5.out _ HE6.out.2 _ HQ6.out).mono ?_
 rintro e w6 ⟨rfl, hB6⟩
 have HE7 := hid (HE6.out.2.trans (hB6.mono HE6.out.2.size))
 clear hB6
 go_wp2_with fail
 go_ret
 exact ⟨rfl, HE7.out⟩
end Go.Proofs.YtheojajaefjecaaGreatDoor
