/- Sets of the program: sums, rounding, as intervals of the interface. -/
import Derived.Test.YtheojajaefjecaaGreatDoorEndsB
import Derived.Test.YtheojajaefjecaaGreatDoorFin
set_option maxHeartbeats 2000000
set_option maxRecDepth 100000
namespace Go.Proofs.YtheojajaefjecaaGreatDoor
open Go.RowKit Dg
theorem splus_ret {W : World} {B : Nat} {a0 a1 a2 a3 a4 a5 a6 a7 a8 : Value} {tm : Array Value} {R : Ending → World → Prop} (h2 : tm[4]?.getD undef = .pointer (some ⟨B, 0, none⟩)) (hV : Box W B #[a0, a1, a2, a3, a4, a5, a6, a7, a8]) (hR : R (.returned (.agg #[a0, a1, a2, a3, a4, a5, a6, a7, a8])) W) :
  bodyPost Tryz.prog Tryz.f70 R .ret { tmps := tm, defers := [] } W := by
 obtain ⟨g0, g1, g2, g3, g4, g5, g6, g7, g8, _⟩ := hV.cells9
 exact bodyPost_ret (v := .agg #[a0, a1, a2, a3, a4, a5, a6, a7, a8]) (by simp [results, Tryz.results70, go_sem, h2, g0, g1, g2, g3, g4, g5, g6, g7, g8]) rfl hR
theorem sround_ret {W : World} {B : Nat} {a0 a1 a2 a3 a4 a5 a6 a7 a8 : Value} {tm : Array Value} {R : Ending → World → Prop} (h2 : tm[4]?.getD undef = .pointer (some ⟨B, 0, none⟩)) (hV : Box W B #[a0, a1, a2, a3, a4, a5, a6, a7, a8]) (hR : R (.returned (.agg #[a0, a1, a2, a3, a4, a5, a6, a7, a8])) W) :
  bodyPost Tryz.prog Tryz.f61 R .ret { tmps := tm, defers := [] } W := by
 obtain ⟨g0, g1, g2, g3, g4, g5, g6, g7, g8, _⟩ := hV.cells9
 exact bodyPost_ret (v := .agg #[a0, a1, a2, a3, a4, a5, a6, a7, a8]) (by simp [results, Tryz.results61, go_sem, h2, g0, g1, g2, g3, g4, g5, g6, g7, g8]) rfl hR
theorem siv_ret {W : World} {B : Nat} {a0 a1 a2 a3 a4 a5 a6 a7 : Value} {tm : Array Value} {R : Ending → World → Prop} (h2 : tm[2]?.getD undef = .pointer (some ⟨B, 0, none⟩)) (hV : Box W B #[a0, a1, a2, a3, a4, a5, a6, a7]) (hR : R (.returned (.agg #[a0, a1, a2, a3, a4, a5, a6, a7])) W) :
  bodyPost Tryz.prog Tryz.f125 R .ret { tmps := tm, defers := [] } W := by
 obtain ⟨g0, g1, g2, g3, g4, g5, g6, g7, _⟩ := hV.cells8
 exact bodyPost_ret (v := .agg #[a0, a1, a2, a3, a4, a5, a6, a7]) (by simp [results, Tryz.results125, go_sem, h2, g0, g1, g2, g3, g4, g5, g6, g7]) rfl hR
theorem SRep.ends {w : World} (i : Int) (s : Bool) (p : Option Addr) (k c : Nat) (q : Option Addr) (l d : Nat) (j : Int) (sz : Bool) (pz : Option Addr) (kz cz : Nat) (qz : Option Addr) (lz dz : Nat) (e : Bool) {x : (Int × Bool × Nat × Nat) × (Int × Bool × Nat × Nat) × Bool} (h : SRep w (.agg #[.int .i64 i, .bool s, .slice p k c, .slice q l d, .int .i64 j, .bool sz, .slice pz kz cz, .slice qz lz dz, .bool e]) x) : ERep w (.agg #[.int .i64 i, .bool s, .slice p k c, .slice q l d]) x.1 ∧ ERep w (.agg #[.int .i64 j, .bool sz, .slice pz kz cz, .slice qz lz dz]) x.2.1 ∧ e = x.2.2 := by
 obtain ⟨i2, s2, p2, k2, c2, q2, l2, d2, j2, sz2, pz2, kz2, cz2, qz2, lz2, dz2, e2, hv, h1, h2, h3⟩ := h
 have e := Value.agg.inj hv
 simp at e
 obtain ⟨rfl, rfl, ⟨rfl, rfl, rfl⟩, ⟨rfl, rfl, rfl⟩, rfl, rfl, ⟨rfl, rfl, rfl⟩, ⟨rfl, rfl, rfl⟩, rfl⟩ := e
 exact ⟨h1, h2, h3⟩
def splus (x y : (Int × Bool × Nat × Nat) × (Int × Bool × Nat × Nat) × Bool) : (Int × Bool × Nat × Nat) × (Int × Bool × Nat × Nat) × Bool := (eplus x.1 y.1, eplus x.2.1 y.2.1, false)
theorem splus_any (i1 : Int) (s1 : Bool) (p1 : Option Addr) (k1 c1 : Nat) (q1 : Option Addr) (l1 d1 : Nat) (j1 : Int) (sz1 : Bool) (pz1 : Option Addr) (kz1 cz1 : Nat) (qz1 : Option Addr) (lz1 dz1 : Nat) (e1 : Bool) (i2 : Int) (s2 : Bool) (p2 : Option Addr) (k2 c2 : Nat) (q2 : Option Addr) (l2 d2 : Nat) (j2 : Int) (sz2 : Bool) (pz2 : Option Addr) (kz2 cz2 : Nat) (qz2 : Option Addr) (lz2 dz2 : Nat) (e2 : Bool) (x y : (Int × Bool × Nat × Nat) × (Int × Bool × Nat × Nat) × Bool) (w : World) (h : SRep w (.agg #[.int .i64 i1, .bool s1, .slice p1 k1 c1, .slice q1 l1 d1, .int .i64 j1, .bool sz1, .slice pz1 kz1 cz1, .slice qz1 lz1 dz1, .bool e1]) x) (h' : SRep w (.agg #[.int .i64 i2, .bool s2, .slice p2 k2 c2, .slice q2 l2 d2, .int .i64 j2, .bool sz2, .slice pz2 kz2 cz2, .slice qz2 lz2 dz2, .bool e2]) y) (hx : EOk 1000 x.1 ∧ EOk 1000 x.2.1) (hy : EOk 1000 y.1 ∧ EOk 1000 y.2.1) (ht : TabOk w) :
  Calls Tryz.prog 70 #[.agg #[.int .i64 i1, .bool s1, .slice p1 k1 c1, .slice q1 l1 d1, .int .i64 j1, .bool sz1, .slice pz1 kz1 cz1, .slice qz1 lz1 dz1, .bool e1], .agg #[.int .i64 i2, .bool s2, .slice p2 k2 c2, .slice q2 l2 d2, .int .i64 j2, .bool sz2, .slice pz2 kz2 cz2, .slice qz2 lz2 dz2, .bool e2]] w fun e w' => ∃ i3 s3 p3 k3 c3 q3 l3 d3 j3 sz3 pz3 kz3 cz3 qz3 lz3 dz3 e3, e = .returned (.agg #[.int .i64 i3, .bool s3, .slice p3 k3 c3, .slice q3 l3 d3, .int .i64 j3, .bool sz3, .slice pz3 kz3 cz3, .slice qz3 lz3 dz3, .bool e3]) ∧ Hid (SRep w' (.agg #[.int .i64 i3, .bool s3, .slice p3 k3 c3, .slice q3 l3 d3, .int .i64 j3, .bool sz3, .slice pz3 kz3 cz3, .slice qz3 lz3 dz3, .bool e3]) (splus x y)) ∧ Below w.heap.size w w' := by
 have h1 := h.ends
 have h2 := h'.ends
 have HL := hid (fun (W : World) (hW : Below w.heap.size w W) => eplus_any i1 s1 p1 k1 c1 q1 l1 d1 i2 s2 p2 k2 c2 q2 l2 d2 x.1 y.1 W (h1.1.below hW) (h2.1.below hW) hx.1 hy.1 (ht.below hW))
 have HH := hid (fun (W : World) (hW : Below w.heap.size w W) => eplus_any j1 sz1 pz1 kz1 cz1 qz1 lz1 dz1 j2 sz2 pz2 kz2 cz2 qz2 lz2 dz2 x.2.1 y.2.1 W (h1.2.1.below hW) (h2.2.1.below hW) hx.2 hy.2 (ht.below hW))
 clear h h' hx hy ht h1 h2
 obtain ⟨r, hr⟩ : ∃ r, r = splus x y := ⟨_, rfl⟩
 obtain ⟨rl, hrl⟩ : ∃ r, r = eplus x.1 y.1 := ⟨_, rfl⟩
 obtain ⟨rh, hrh⟩ : ∃ r, r = eplus x.2.1 y.2.1 := ⟨_, rfl⟩
 rw [← hr]
 rw [← hrl] at HL
 rw [← hrh] at HH
 have HX : Hid (r = (rl, rh, false)) := hid (by rw [hr, hrl, hrh]; rfl)
 clear hr hrl hrh
 go_enter Tryz.func70, Tryz.ntmps70
 go_wp2_with fail
 generalize hA : World.alloc _ _ = W0
 have HV := hid (pre3_o hA nd9 nd9 nd9)
 clear hA
 have HQ := hid (QQ.i2 (cs := [.int .i64 i1, .bool s1, .slice p1 k1 c1, .slice q1 l1 d1, .int .i64 j1, .bool sz1, .slice pz1 kz1 cz1, .slice qz1 lz1 dz1, .bool e1]) (cs' := [.int .i64 i2, .bool s2, .slice p2 k2 c2, .slice q2 l2 d2, .int .i64 j2, .bool sz2, .slice pz2 kz2 cz2, .slice qz2 lz2 dz2, .bool e2]) HV.out.1 HV.out.2.1 HV.out.2.2.2)
 have HS := hid (fun (w' : World) (hb : QQ w [(w.heap.size, [.int .i64 i1, .bool s1, .slice p1 k1 c1, .slice q1 l1 d1, .int .i64 j1, .bool sz1, .slice pz1 kz1 cz1, .slice qz1 lz1 dz1, .bool e1]), (w.heap.size + 1, [.int .i64 i2, .bool s2, .slice p2 k2 c2, .slice q2 l2 d2, .int .i64 j2, .bool sz2, .slice pz2 kz2 cz2, .slice qz2 lz2 dz2, .bool e2])] w') => hb.s_9_9)
 have HN : Hid (Apart [(w.heap.size, [.int .i64 i1, .bool s1, .slice p1 k1 c1, .slice q1 l1 d1, .int .i64 j1, .bool sz1, .slice pz1 kz1 cz1, .slice qz1 lz1 dz1, .bool e1]), (w.heap.size + 1, [.int .i64 i2, .bool s2, .slice p2 k2 c2, .slice q2 l2 d2, .int .i64 j2, .bool sz2, .slice pz2 kz2 cz2, .slice qz2 lz2 dz2, .bool e2])] (w.heap.size + 1 + 1)) := hid (ne2 (by omega) (by omega))
 have HI : Hid (w.heap.size ≤ w.heap.size + 1 + 1) := hid (by omega)
 go_region_held3 (fun w' => w'.cell? ⟨w.heap.size, 0, none⟩ = some (.int .i64 i1) ∧ w'.cell? ⟨w.heap.size, 1, none⟩ = some (.bool s1) ∧ w'.cell? ⟨w.heap.size, 2, none⟩ = some (.slice p1 k1 c1) ∧ w'.cell? ⟨w.heap.size, 3, none⟩ = some (.slice q1 l1 d1) ∧ w'.cell? ⟨w.heap.size, 4, none⟩ = some (.int .i64 j1) ∧ w'.cell? ⟨w.heap.size, 5, none⟩ = some (.bool sz1) ∧ w'.cell? ⟨w.heap.size, 6, none⟩ = some (.slice pz1 kz1 cz1) ∧ w'.cell? ⟨w.heap.size, 7, none⟩ = some (.slice qz1 lz1 dz1) ∧ w'.cell? ⟨w.heap.size, 8, none⟩ = some (.bool e1) ∧ w'.cell? ⟨w.heap.size + 1, 0, none⟩ = some (.int .i64 i2) ∧ w'.cell? ⟨w.heap.size + 1, 1, none⟩ = some (.bool s2) ∧ w'.cell? ⟨w.heap.size + 1, 2, none⟩ = some (.slice p2 k2 c2) ∧ w'.cell? ⟨w.heap.size + 1, 3, none⟩ = some (.slice q2 l2 d2) ∧ w'.cell? ⟨w.heap.size + 1, 4, none⟩ = some (.int .i64 j2) ∧ w'.cell? ⟨w.heap.size + 1, 5, none⟩ = some (.bool sz2) ∧ w'.cell? ⟨w.heap.size + 1, 6, none⟩ = some (.slice pz2 kz2 cz2) ∧ w'.cell? ⟨w.heap.size + 1, 7, none⟩ = some (.slice qz2 lz2 dz2) ∧ w'.cell? ⟨w.heap.size + 1, 8, none⟩ = some (.bool e2) ∧ Hid (QQ w [(w.heap.size, [.int .i64 i1, .bool s1, .slice p1 k1 c1, .slice q1 l1 d1, .int .i64 j1, .bool sz1, .slice pz1 kz1 cz1, .slice qz1 lz1 dz1, .bool e1]), (w.heap.size + 1, [.int .i64 i2, .bool s2, .slice p2 k2 c2, .slice q2 l2 d2, .int .i64 j2, .bool sz2, .slice pz2 kz2 cz2, .slice qz2 lz2 dz2, .bool e2])] w'))
  (first | (refine HS.out _ ?_; first | (with_reducible exact HQ.out.drew) | (with_reducible assumption) | (with_reducible refine QQ.st9 ?_ HN.out HI.out; assumption)))
  (first
   | (go_at_call_of 141 p1; refine (HL.out _ HQ.out.drew.bel).mono ?_; rintro e wa ⟨i4, s4, p4, k4, c4, q4, l4, d4, rfl, hE1, hB1⟩; have hQ1 := HQ.out.drew.call hB1; have hV1 := (HV.out.2.2.1.drew).below hB1)
   | (go_at_call_of 141 pz1; refine (HH.out _ hQ1.bel).mono ?_; rintro e wb ⟨i5, s5, p5, k5, c5, q5, l5, d5, rfl, hE2, hB2⟩; have hQ2 := hQ1.call hB2; have hV2 := hV1.below hB2; obtain ⟨g0, g1, g2, g3, g4, g5, g6, g7, g8, f0, f1, f2, f3, f4, f5, f6, f7, f8⟩ := hV2.cells9))
 rename_i hHeld
 clear hHeld
 have HE := hid (And.intro hV2 (And.intro (hE1.out.below hB2) (And.intro hE2.out hQ2.bel)))
 clear hQ1 hQ2 hV1 hV2 hB1 hB2 hE1 hE2
 go_wp2_with fail
 exact splus_ret rfl (HE.out.1.stores [.int .i64 i4, .bool s4, .slice p4 k4 c4, .slice q4 l4 d4, .int .i64 i5, .bool s5, .slice p5 k5 c5, .slice q5 l5 d5, .bool false] rfl nd9) ⟨_, _, _, _, _, _, _, _, _, _, _, _, _, _, _, _, _, rfl, hid ⟨_, _, _, _, _, _, _, _, _, _, _, _, _, _, _, _, _, rfl, by rw [HX.out]; exact ERep.stores (k := 0) (l := [.int .i64 i4, .bool s4, .slice p4 k4 c4, .slice q4 l4 d4, .int .i64 i5, .bool s5, .slice p5 k5 c5, .slice q5 l5 d5, .bool false]) HE.out.2.1 HE.out.1 nd9, by rw [HX.out]; exact ERep.stores (k := 0) (l := [.int .i64 i4, .bool s4, .slice p4 k4 c4, .slice q4 l4 d4, .int .i64 i5, .bool s5, .slice p5 k5 c5, .slice q5 l5 d5, .bool false]) HE.out.2.2.1 HE.out.1 nd9, by rw [HX.out]⟩, Below.stores (k := 0) (l := [.int .i64 i4, .bool s4, .slice p4 k4 c4, .slice q4 l4 d4, .int .i64 i5, .bool s5, .slice p5 k5 c5, .slice q5 l5 d5, .bool false]) HE.out.2.2.2 HI.out⟩
def sround (x : (Int × Bool × Nat × Nat) × (Int × Bool × Nat × Nat) × Bool) (p : Nat) : (Int × Bool × Nat × Nat) × (Int × Bool × Nat × Nat) × Bool := (edn x.1 p, eup x.2.1 p, false)
theorem sround_any (i1 : Int) (s1 : Bool) (p1 : Option Addr) (k1 c1 : Nat) (q1 : Option Addr) (l1 d1 : Nat) (j1 : Int) (sz1 : Bool) (pz1 : Option Addr) (kz1 cz1 : Nat) (qz1 : Option Addr) (lz1 dz1 : Nat) (e1 : Bool) (pr : Nat) (x : (Int × Bool × Nat × Nat) × (Int × Bool × Nat × Nat) × Bool) (w : World) (h : SRep w (.agg #[.int .i64 i1, .bool s1, .slice p1 k1 c1, .slice q1 l1 d1, .int .i64 j1, .bool sz1, .slice pz1 kz1 cz1, .slice qz1 lz1 dz1, .bool e1]) x) (hx : EOk 1000 x.1 ∧ EOk 1000 x.2.1) (hp : pr ≤ 1000000) (ht : TabOk w) :
  Calls Tryz.prog 61 #[.agg #[.int .i64 i1, .bool s1, .slice p1 k1 c1, .slice q1 l1 d1, .int .i64 j1, .bool sz1, .slice pz1 kz1 cz1, .slice qz1 lz1 dz1, .bool e1], .int .i64 (pr : Int)] w fun e w' => ∃ i3 s3 p3 k3 c3 q3 l3 d3 j3 sz3 pz3 kz3 cz3 qz3 lz3 dz3 e3, e = .returned (.agg #[.int .i64 i3, .bool s3, .slice p3 k3 c3, .slice q3 l3 d3, .int .i64 j3, .bool sz3, .slice pz3 kz3 cz3, .slice qz3 lz3 dz3, .bool e3]) ∧ Hid (SRep w' (.agg #[.int .i64 i3, .bool s3, .slice p3 k3 c3, .slice q3 l3 d3, .int .i64 j3, .bool sz3, .slice pz3 kz3 cz3, .slice qz3 lz3 dz3, .bool e3]) (sround x pr)) ∧ Below w.heap.size w w' := by
 have h1 := h.ends
 have HL := hid (fun (W : World) (hW : Below w.heap.size w W) => down_any i1 s1 p1 k1 c1 q1 l1 d1 x.1 pr W (h1.1.below hW) hx.1 hp (ht.below hW))
 have HH := hid (fun (W : World) (hW : Below w.heap.size w W) => up_any j1 sz1 pz1 kz1 cz1 qz1 lz1 dz1 x.2.1 pr W (h1.2.1.below hW) hx.2 hp (ht.below hW))
 clear h hx hp ht h1
 obtain ⟨r, hr⟩ : ∃ r, r = sround x pr := ⟨_, rfl⟩
 obtain ⟨rl, hrl⟩ : ∃ r, r = edn x.1 pr := ⟨_, rfl⟩
 obtain ⟨rh, hrh⟩ : ∃ r, r = eup x.2.1 pr := ⟨_, rfl⟩
 rw [← hr]
 rw [← hrl] at HL
 rw [← hrh] at HH
 have HX : Hid (r = (rl, rh, false)) := hid (by rw [hr, hrl, hrh]; rfl)
 clear hr hrl hrh
 obtain ⟨pi, hpi⟩ : ∃ pi : Int, pi = (pr : Int) := ⟨_, rfl⟩
 rw [← hpi] at HL HH ⊢
 clear hpi
 go_enter Tryz.func61, Tryz.ntmps61
 go_wp2_with fail
 generalize hA : World.alloc _ _ = W0
 have HV := hid (pre2_o hA nd9 nd9)
 clear hA
 have HQ := hid (QQ.i1 (cs := [.int .i64 i1, .bool s1, .slice p1 k1 c1, .slice q1 l1 d1, .int .i64 j1, .bool sz1, .slice pz1 kz1 cz1, .slice qz1 lz1 dz1, .bool e1]) HV.out.1 HV.out.2.2)
 have HS := hid (fun (w' : World) (hb : QQ w [(w.heap.size, [.int .i64 i1, .bool s1, .slice p1 k1 c1, .slice q1 l1 d1, .int .i64 j1, .bool sz1, .slice pz1 kz1 cz1, .slice qz1 lz1 dz1, .bool e1])] w') => hb.s_9)
 have HN : Hid (Apart [(w.heap.size, [.int .i64 i1, .bool s1, .slice p1 k1 c1, .slice q1 l1 d1, .int .i64 j1, .bool sz1, .slice pz1 kz1 cz1, .slice qz1 lz1 dz1, .bool e1])] (w.heap.size + 1)) := hid (ne1 (by omega))
 have HI : Hid (w.heap.size ≤ w.heap.size + 1) := hid (by omega)
 go_region_held3 (fun w' => w'.cell? ⟨w.heap.size, 0, none⟩ = some (.int .i64 i1) ∧ w'.cell? ⟨w.heap.size, 1, none⟩ = some (.bool s1) ∧ w'.cell? ⟨w.heap.size, 2, none⟩ = some (.slice p1 k1 c1) ∧ w'.cell? ⟨w.heap.size, 3, none⟩ = some (.slice q1 l1 d1) ∧ w'.cell? ⟨w.heap.size, 4, none⟩ = some (.int .i64 j1) ∧ w'.cell? ⟨w.heap.size, 5, none⟩ = some (.bool sz1) ∧ w'.cell? ⟨w.heap.size, 6, none⟩ = some (.slice pz1 kz1 cz1) ∧ w'.cell? ⟨w.heap.size, 7, none⟩ = some (.slice qz1 lz1 dz1) ∧ w'.cell? ⟨w.heap.size, 8, none⟩ = some (.bool e1) ∧ Hid (QQ w [(w.heap.size, [.int .i64 i1, .bool s1, .slice p1 k1 c1, .slice q1 l1 d1, .int .i64 j1, .bool sz1, .slice pz1 kz1 cz1, .slice qz1 lz1 dz1, .bool e1])] w'))
  (first | (refine HS.out _ ?_; first | (with_reducible exact HQ.out.drew) | (with_reducible assumption) | (with_reducible refine QQ.st9 ?_ HN.out HI.out; assumption)))
  (first
   | (go_at_call 128; refine (HL.out _ HQ.out.drew.bel).mono ?_; rintro e wa ⟨i4, s4, p4, k4, c4, q4, l4, d4, rfl, hE1, hB1⟩; have hQ1 := HQ.out.drew.call hB1; have hV1 := (HV.out.2.1.drew).below hB1)
   | (go_at_call 129; refine (HH.out _ hQ1.bel).mono ?_; rintro e wb ⟨i5, s5, p5, k5, c5, q5, l5, d5, rfl, hE2, hB2⟩; have hQ2 := hQ1.call hB2; have hV2 := hV1.below hB2; obtain ⟨g0, g1, g2, g3, g4, g5, g6, g7, g8, f0, f1, f2, f3, f4, f5, f6, f7, f8⟩ := hV2.cells9))
 rename_i hHeld
 clear hHeld
 have HE := hid (And.intro hV2 (And.intro (hE1.out.below hB2) (And.intro hE2.out hQ2.bel)))
 clear hQ1 hQ2 hV1 hV2 hB1 hB2 hE1 hE2
 go_wp2_with fail
 exact sround_ret rfl (HE.out.1.stores [.int .i64 i4, .bool s4, .slice p4 k4 c4, .slice q4 l4 d4, .int .i64 i5, .bool s5, .slice p5 k5 c5, .slice q5 l5 d5, .bool false] rfl nd9) ⟨_, _, _, _, _, _, _, _, _, _, _, _, _, _, _, _, _, rfl, hid ⟨_, _, _, _, _, _, _, _, _, _, _, _, _, _, _, _, _, rfl, by rw [HX.out]; exact ERep.stores (k := 0) (l := [.int .i64 i4, .bool s4, .slice p4 k4 c4, .slice q4 l4 d4, .int .i64 i5, .bool s5, .slice p5 k5 c5, .slice q5 l5 d5, .bool false]) HE.out.2.1 HE.out.1 nd9, by rw [HX.out]; exact ERep.stores (k := 0) (l := [.int .i64 i4, .bool s4, .slice p4 k4 c4, .slice q4 l4 d4, .int .i64 i5, .bool s5, .slice p5 k5 c5, .slice q5 l5 d5, .bool false]) HE.out.2.2.1 HE.out.1 nd9, by rw [HX.out]⟩, Below.stores (k := 0) (l := [.int .i64 i4, .bool s4, .slice p4 k4 c4, .slice q4 l4 d4, .int .i64 i5, .bool s5, .slice p5 k5 c5, .slice q5 l5 d5, .bool false]) HE.out.2.2.2 HI.out⟩
def giv (x : (Int × Bool × Nat × Nat) × (Int × Bool × Nat × Nat) × Bool) : (Bool × Nat × Nat) × (Bool × Nat × Nat) × Bool × Bool :=
 if x.2.2 then ((false, 1, 0), (false, 0, 0), false, false) else (erat x.1, erat x.2.1, x.1.1 != 0, x.2.1.1 != 0)
theorem siv_ok (i1 : Int) (s1 : Bool) (p1 : Option Addr) (k1 c1 : Nat) (q1 : Option Addr) (l1 d1 : Nat) (j1 : Int) (sz1 : Bool) (pz1 : Option Addr) (kz1 cz1 : Nat) (qz1 : Option Addr) (lz1 dz1 : Nat) (e1 : Bool) (x : (Int × Bool × Nat × Nat) × (Int × Bool × Nat × Nat) × Bool) (w : World) (h : SRep w (.agg #[.int .i64 i1, .bool s1, .slice p1 k1 c1, .slice q1 l1 d1, .int .i64 j1, .bool sz1, .slice pz1 kz1 cz1, .slice qz1 lz1 dz1, .bool e1]) x) (hx : EOk 100000 x.1 ∧ EOk 100000 x.2.1) (hb : ebig x.1 = false ∧ ebig x.2.1 = false) (he : x.2.2 = false) :
  Calls Tryz.prog 125 #[.agg #[.int .i64 i1, .bool s1, .slice p1 k1 c1, .slice q1 l1 d1, .int .i64 j1, .bool sz1, .slice pz1 kz1 cz1, .slice qz1 lz1 dz1, .bool e1]] w fun e w' => ∃ s3 p3 k3 c3 q3 l3 d3 sz3 pz3 kz3 cz3 qz3 lz3 dz3 x3 y3, e = .returned (.agg #[.bool s3, .slice p3 k3 c3, .slice q3 l3 d3, .bool sz3, .slice pz3 kz3 cz3, .slice qz3 lz3 dz3, .bool x3, .bool y3]) ∧ Hid (GRep w' (.agg #[.bool s3, .slice p3 k3 c3, .slice q3 l3 d3, .bool sz3, .slice pz3 kz3 cz3, .slice qz3 lz3 dz3, .bool x3, .bool y3]) (giv x)) ∧ Below w.heap.size w w' := by
 have h1 := h.ends
 have HL := hid (fun (W : World) (hW : Below w.heap.size w W) => erat_ok i1 s1 p1 k1 c1 q1 l1 d1 x.1 W (h1.1.below hW) hx.1 hb.1)
 have HH := hid (fun (W : World) (hW : Below w.heap.size w W) => erat_ok j1 sz1 pz1 kz1 cz1 qz1 lz1 dz1 x.2.1 W (h1.2.1.below hW) hx.2 hb.2)
 have hi := (h1.1.frac).1
 have hj := (h1.2.1.frac).1
 have hee := h1.2.2
 rw [he] at hee
 subst hee
 obtain ⟨r, hr⟩ : ∃ r, r = giv x := ⟨_, rfl⟩
 obtain ⟨rl, hrl⟩ : ∃ r, r = erat x.1 := ⟨_, rfl⟩
 obtain ⟨rh, hrh⟩ : ∃ r, r = erat x.2.1 := ⟨_, rfl⟩
 rw [← hr]
 rw [← hrl] at HL
 rw [← hrh] at HH
 have HX : Hid (r = (rl, rh, i1 != 0, j1 != 0)) := hid (by rw [hr, hrl, hrh, hi, hj]; unfold giv; rw [he]; rfl)
 clear hr hrl hrh h hx hb he h1 hi hj
 go_enter Tryz.func125, Tryz.ntmps125
 go_wp2_with fail
 generalize hA : World.alloc _ _ = W0
 have HV := hid (pre2_o hA nd9 nd8)
 clear hA
 have HQ := hid (QQ.i1 (cs := [.int .i64 i1, .bool s1, .slice p1 k1 c1, .slice q1 l1 d1, .int .i64 j1, .bool sz1, .slice pz1 kz1 cz1, .slice qz1 lz1 dz1, .bool false]) HV.out.1 HV.out.2.2)
 have HS := hid (fun (w' : World) (hb : QQ w [(w.heap.size, [.int .i64 i1, .bool s1, .slice p1 k1 c1, .slice q1 l1 d1, .int .i64 j1, .bool sz1, .slice pz1 kz1 cz1, .slice qz1 lz1 dz1, .bool false])] w') => hb.s_9)
 have HN : Hid (Apart [(w.heap.size, [.int .i64 i1, .bool s1, .slice p1 k1 c1, .slice q1 l1 d1, .int .i64 j1, .bool sz1, .slice pz1 kz1 cz1, .slice qz1 lz1 dz1, .bool false])] (w.heap.size + 1)) := hid (ne1 (by omega))
 have HI : Hid (w.heap.size ≤ w.heap.size + 1) := hid (by omega)
 go_region_held3 (fun w' => w'.cell? ⟨w.heap.size, 0, none⟩ = some (.int .i64 i1) ∧ w'.cell? ⟨w.heap.size, 1, none⟩ = some (.bool s1) ∧ w'.cell? ⟨w.heap.size, 2, none⟩ = some (.slice p1 k1 c1) ∧ w'.cell? ⟨w.heap.size, 3, none⟩ = some (.slice q1 l1 d1) ∧ w'.cell? ⟨w.heap.size, 4, none⟩ = some (.int .i64 j1) ∧ w'.cell? ⟨w.heap.size, 5, none⟩ = some (.bool sz1) ∧ w'.cell? ⟨w.heap.size, 6, none⟩ = some (.slice pz1 kz1 cz1) ∧ w'.cell? ⟨w.heap.size, 7, none⟩ = some (.slice qz1 lz1 dz1) ∧ w'.cell? ⟨w.heap.size, 8, none⟩ = some (.bool false) ∧ Hid (QQ w [(w.heap.size, [.int .i64 i1, .bool s1, .slice p1 k1 c1, .slice q1 l1 d1, .int .i64 j1, .bool sz1, .slice pz1 kz1 cz1, .slice qz1 lz1 dz1, .bool false])] w'))
  (first | (refine HS.out _ ?_; first | (with_reducible exact HQ.out.drew) | (with_reducible assumption) | (with_reducible refine QQ.st8 ?_ HN.out HI.out; assumption)))
  (first
   | (go_at_call_of 84 p1; refine (HL.out _ HQ.out.drew.bel).mono ?_; rintro e wa ⟨s4, p4, k4, c4, q4, l4, d4, rfl, hE1, hB1⟩; have hQ1 := HQ.out.drew.call hB1; have hV1 := (HV.out.2.1.drew).below hB1)
   | (go_at_call_of 84 pz1; refine (HH.out _ hQ1.bel).mono ?_; rintro e wb ⟨s5, p5, k5, c5, q5, l5, d5, rfl, hE2, hB2⟩; have hQ2 := hQ1.call hB2; have hV2 := hV1.below hB2)
   | (go_at_call_of 85 p1; refine (infinite_any i1 s1 p1 k1 c1 q1 l1 d1 _).mono ?_; rintro e wc ⟨rfl, hB3⟩; have hQ3 := hQ2.call hB3; have hV3 := hV2.below hB3)
   | (go_at_call_of 85 pz1; refine (infinite_any j1 sz1 pz1 kz1 cz1 qz1 lz1 dz1 _).mono ?_; rintro e wd ⟨rfl, hB4⟩; have hQ4 := hQ3.call hB4; have hV4 := hV3.below hB4; obtain ⟨g0, g1, g2, g3, g4, g5, g6, g7, f0, f1, f2, f3, f4, f5, f6, f7⟩ := hV4.cells8))
 rename_i hHeld
 clear hHeld
 have HE := hid (And.intro hV4 (And.intro (((hE1.out.below hB2).below hB3).below hB4) (And.intro ((hE2.out.below hB3).below hB4) hQ4.bel)))
 clear hQ1 hQ2 hQ3 hQ4 hV1 hV2 hV3 hV4 hB1 hB2 hB3 hB4 hE1 hE2
 go_wp2_with fail
 exact siv_ret rfl (HE.out.1.stores [.bool s4, .slice p4 k4 c4, .slice q4 l4 d4, .bool s5, .slice p5 k5 c5, .slice q5 l5 d5, .bool (i1 != 0), .bool (j1 != 0)] rfl nd8) ⟨_, _, _, _, _, _, _, _, _, _, _, _, _, _, _, _, rfl, hid ⟨_, _, _, _, _, _, _, _, _, _, _, _, _, _, _, _, rfl, by rw [HX.out]; exact FNorm.stores (k := 0) (l := [.bool s4, .slice p4 k4 c4, .slice q4 l4 d4, .bool s5, .slice p5 k5 c5, .slice q5 l5 d5, .bool (i1 != 0), .bool (j1 != 0)]) HE.out.2.1 HE.out.1 nd8, by rw [HX.out]; exact FNorm.stores (k := 0) (l := [.bool s4, .slice p4 k4 c4, .slice q4 l4 d4, .bool s5, .slice p5 k5 c5, .slice q5 l5 d5, .bool (i1 != 0), .bool (j1 != 0)]) HE.out.2.2.1 HE.out.1 nd8, by rw [HX.out], by rw [HX.out]⟩, Below.stores (k := 0) (l := [.bool s4, .slice p4 k4 c4, .slice q4 l4 d4, .bool s5, .slice p5 k5 c5, .slice q5 l5 d5, .bool (i1 != 0), .bool (j1 != 0)]) HE.out.2.2.2 HI.out⟩
theorem siv_empty (i1 : Int) (s1 : Bool) (p1 : Option Addr) (k1 c1 : Nat) (q1 : Option Addr) (l1 d1 : Nat) (j1 : Int) (sz1 : Bool) (pz1 : Option Addr) (kz1 cz1 : Nat) (qz1 : Option Addr) (lz1 dz1 : Nat) (e1 : Bool) (x : (Int × Bool × Nat × Nat) × (Int × Bool × Nat × Nat) × Bool) (w : World) (h : SRep w (.agg #[.int .i64 i1, .bool s1, .slice p1 k1 c1, .slice q1 l1 d1, .int .i64 j1, .bool sz1, .slice pz1 kz1 cz1, .slice qz1 lz1 dz1, .bool e1]) x) (he : x.2.2 = true) :
  Calls Tryz.prog 125 #[.agg #[.int .i64 i1, .bool s1, .slice p1 k1 c1, .slice q1 l1 d1, .int .i64 j1, .bool sz1, .slice pz1 kz1 cz1, .slice qz1 lz1 dz1, .bool e1]] w fun e w' => ∃ s3 p3 k3 c3 q3 l3 d3 sz3 pz3 kz3 cz3 qz3 lz3 dz3 x3 y3, e = .returned (.agg #[.bool s3, .slice p3 k3 c3, .slice q3 l3 d3, .bool sz3, .slice pz3 kz3 cz3, .slice qz3 lz3 dz3, .bool x3, .bool y3]) ∧ Hid (GRep w' (.agg #[.bool s3, .slice p3 k3 c3, .slice q3 l3 d3, .bool sz3, .slice pz3 kz3 cz3, .slice qz3 lz3 dz3, .bool x3, .bool y3]) (giv x)) ∧ Below w.heap.size w w' := by
 have h1 := h.ends
 have hee := h1.2.2
 rw [he] at hee
 subst hee
 have hX : giv x = ((false, 1, 0), (false, 0, 0), false, false) := by unfold giv; rw [he]; rfl
 rw [hX]
 have HI := hid (fun (W : World) => fopen (t := (false, 1, 0)) (nFromInt_any 1 W (by decide) (by decide)))
 clear h he h1 hX
 go_enter Tryz.func125, Tryz.ntmps125
 go_wp2_with fail
 generalize hA : World.alloc _ _ = W0
 have HV := hid (pre2_o hA nd9 nd8)
 clear hA
 refine (HI.out W0).mono ?_
 rintro e w1 ⟨s4, p4, k4, c4, q4, l4, d4, rfl, hF, hB1⟩
 have HE := hid (And.intro (HV.out.2.1.below hB1) (HV.out.2.2.trans (hB1.mono HV.out.2.2.size)))
 clear hB1
 obtain ⟨g0, g1, g2, g3, g4, g5, g6, g7, f0, f1, f2, f3, f4, f5, f6, f7⟩ := HE.out.1.cells8
 go_wp2_with fail
 exact siv_ret rfl (HE.out.1.stores [.bool s4, .slice p4 k4 c4, .slice q4 l4 d4, .bool false, .slice none 0 0, .slice none 0 0, .bool false, .bool false] rfl nd8) ⟨_, _, _, _, _, _, _, _, _, _, _, _, _, _, _, _, rfl, hid ⟨_, _, _, _, _, _, _, _, _, _, _, _, _, _, _, _, rfl, FNorm.stores (k := 0) (l := [.bool s4, .slice p4 k4 c4, .slice q4 l4 d4, .bool false, .slice none 0 0, .slice none 0 0, .bool false, .bool false]) hF.out HE.out.1 nd8, FNorm.zero _, rfl, rfl⟩, Below.stores (k := 0) (l := [.bool s4, .slice p4 k4 c4, .slice q4 l4 d4, .bool false, .slice none 0 0, .slice none 0 0, .bool false, .bool false]) HE.out.2 (Nat.le_succ _)⟩
end Go.Proofs.YtheojajaefjecaaGreatDoor
