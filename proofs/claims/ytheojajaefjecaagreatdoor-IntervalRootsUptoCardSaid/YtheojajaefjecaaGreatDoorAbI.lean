/- Operations on two intervals: askBoth. -/
import Derived.Test.YtheojajaefjecaaGreatDoorFin
import Derived.Test.YtheojajaefjecaaGreatDoorIvC
import Derived.Test.YtheojajaefjecaaGreatDoorEndsB
namespace Go.Proofs.YtheojajaefjecaaGreatDoor
open Go.RowKit Dg
open List (setIfInBounds_toArray set_cons_zero set_cons_succ)
theorem st_X {w0 w w' : World} {t : List (Nat × List Value)} {B C : Nat} {cs ds : Array Value} {i j : Int} {s sz e : Bool} {p q pz qz : Option Addr} {k c l d kz cz lz dz : Nat} {v1 : Value} {x0 x1 : (Int × Bool × Nat × Nat) × (Int × Bool × Nat × Nat) × Bool} (h : stores w B 0 [.int .i64 i, .bool s, .slice p k c, .slice q l d, .int .i64 j, .bool sz, .slice pz kz cz, .slice qz lz dz, .bool e] = w') (hQ : QQ w0 t w) (hB : Box w B cs) (hs : 9 = cs.size) (ha : Apart t B) (hle : w0.heap.size ≤ B) (hC : Box w C ds) (hne : C ≠ B) (h0 : Hid (SRep w (.agg #[.int .i64 i, .bool s, .slice p k c, .slice q l d, .int .i64 j, .bool sz, .slice pz kz cz, .slice qz lz dz, .bool e]) x0)) (h1 : Hid (SRep w v1 x1)) :
  QQ w0 t w' ∧ Box w' B #[.int .i64 i, .bool s, .slice p k c, .slice q l d, .int .i64 j, .bool sz, .slice pz kz cz, .slice qz lz dz, .bool e] ∧ Box w' C ds ∧ Hid (SRep w' (.agg #[.int .i64 i, .bool s, .slice p k c, .slice q l d, .int .i64 j, .bool sz, .slice pz kz cz, .slice qz lz dz, .bool e]) x0) ∧ Hid (SRep w' v1 x1) ∧ w'.heap.size = w.heap.size :=
  st_step (R := SRep) (fun _ _ _ _ _ _ _ => SRep.stores) h hQ hB hs nd_S ha hle hC hne h0 h1
theorem st_Y {w0 w w' : World} {t : List (Nat × List Value)} {B C : Nat} {cs ds : Array Value} {i j : Int} {s sz e : Bool} {p q pz qz : Option Addr} {k c l d kz cz lz dz : Nat} {v1 : Value} {x0 x1 : (Int × Bool × Nat × Nat) × (Int × Bool × Nat × Nat) × Bool} (h : stores w B 0 [.int .i64 i, .bool s, .slice p k c, .slice q l d, .int .i64 j, .bool sz, .slice pz kz cz, .slice qz lz dz, .bool e] = w') (hQ : QQ w0 t w) (hB : Box w B cs) (hs : 9 = cs.size) (ha : Apart t B) (hle : w0.heap.size ≤ B) (hC : Box w C ds) (hne : C ≠ B) (h0 : Hid (SRep w v1 x0)) (h1 : Hid (SRep w (.agg #[.int .i64 i, .bool s, .slice p k c, .slice q l d, .int .i64 j, .bool sz, .slice pz kz cz, .slice qz lz dz, .bool e]) x1)) :
  QQ w0 t w' ∧ Box w' B #[.int .i64 i, .bool s, .slice p k c, .slice q l d, .int .i64 j, .bool sz, .slice pz kz cz, .slice qz lz dz, .bool e] ∧ Box w' C ds ∧ Hid (SRep w' v1 x0) ∧ Hid (SRep w' (.agg #[.int .i64 i, .bool s, .slice p k c, .slice q l d, .int .i64 j, .bool sz, .slice pz kz cz, .slice qz lz dz, .bool e]) x1) ∧ w'.heap.size = w.heap.size :=
  st_step (R := SRep) (fun _ _ _ _ _ _ _ => SRep.stores) h hQ hB hs nd_S ha hle hC hne h0 h1
def CutAB (W0 : World) (a b : (Int × Bool × Nat × Nat) × (Int × Bool × Nat × Nat) × Bool) (v3 v4 : Value) (wx : World) : Prop :=
 ∃ X Y i3 s3 p3 k3 c3 q3 l3 d3 j3 sz3 pz3 kz3 cz3 qz3 lz3 dz3 e3 i4 s4 p4 k4 c4 q4 l4 d4 j4 sz4 pz4 kz4 cz4 qz4 lz4 dz4 e4, v3 = .pointer (some ⟨X, 0, none⟩) ∧ v4 = .pointer (some ⟨Y, 0, none⟩) ∧ X ≠ Y ∧ Box wx X #[.int .i64 i3, .bool s3, .slice p3 k3 c3, .slice q3 l3 d3, .int .i64 j3, .bool sz3, .slice pz3 kz3 cz3, .slice qz3 lz3 dz3, .bool e3] ∧ Box wx Y #[.int .i64 i4, .bool s4, .slice p4 k4 c4, .slice q4 l4 d4, .int .i64 j4, .bool sz4, .slice pz4 kz4 cz4, .slice qz4 lz4 dz4, .bool e4] ∧ SRep wx (.agg #[.int .i64 i3, .bool s3, .slice p3 k3 c3, .slice q3 l3 d3, .int .i64 j3, .bool sz3, .slice pz3 kz3 cz3, .slice qz3 lz3 dz3, .bool e3]) a ∧ SRep wx (.agg #[.int .i64 i4, .bool s4, .slice p4 k4 c4, .slice q4 l4 d4, .int .i64 j4, .bool sz4, .slice pz4 kz4 cz4, .slice qz4 lz4 dz4, .bool e4]) b ∧ Below W0.heap.size W0 wx ∧ W0.heap.size ≤ X ∧ W0.heap.size ≤ Y
theorem askBothI1_ret {W : World} {B : Nat} {a0 a1 a2 a3 a4 a5 a6 a7 : Value} {tm : Array Value} {R : Ending → World → Prop} (h2 : tm[3]?.getD undef = .pointer (some ⟨B, 0, none⟩)) (hV : Box W B #[a0, a1, a2, a3, a4, a5, a6, a7]) (hR : R (.returned (.agg #[a0, a1, a2, a3, a4, a5, a6, a7])) W) :
  bodyPost Tryz.prog Tryz.f211 R .ret { tmps := tm, defers := [] } W := by
 obtain ⟨g0, g1, g2, g3, g4, g5, g6, g7, _⟩ := hV.cells8
 exact bodyPost_ret (v := .agg #[a0, a1, a2, a3, a4, a5, a6, a7]) (by simp [results, Tryz.results211, go_sem, h2, g0, g1, g2, g3, g4, g5, g6, g7]) rfl hR
set_option maxHeartbeats 8000000 in
set_option maxRecDepth 100000 in
theorem askBothI1_gen (k : Bool) (c : Int) (Ba Bb Bo : Nat) (s1 : Bool) (p1 : Option Addr) (k1 c1 : Nat) (q1 : Option Addr) (l1 d1 : Nat) (sz1 : Bool) (pz1 : Option Addr) (kz1 cz1 : Nat) (qz1 : Option Addr) (lz1 dz1 : Nat) (x1 : Bool) (y1 : Bool) (s2 : Bool) (p2 : Option Addr) (k2 c2 : Nat) (q2 : Option Addr) (l2 d2 : Nat) (sz2 : Bool) (pz2 : Option Addr) (kz2 cz2 : Nat) (qz2 : Option Addr) (lz2 dz2 : Nat) (x2 : Bool) (y2 : Bool) (g : FuncId) (cap : Array Value) (a b a' b' : Bool × Nat × Nat) (D : (Bool × Nat × Nat) × (Bool × Nat × Nat) × Bool × Bool) (w : World)
  (hBa : Box w Ba #[.bool s1, .slice p1 k1 c1, .slice q1 l1 d1, .bool sz1, .slice pz1 kz1 cz1, .slice qz1 lz1 dz1, .bool x1, .bool y1]) (hBb : Box w Bb #[.bool s2, .slice p2 k2 c2, .slice q2 l2 d2, .bool sz2, .slice pz2 kz2 cz2, .slice qz2 lz2 dz2, .bool x2, .bool y2]) (hBo : Box w Bo #[.func (.func g) #[] cap])
  (ha : NRep w (.agg #[.bool s1, .slice p1 k1 c1, .slice q1 l1 d1]) a) (hb : NRep w (.agg #[.bool sz1, .slice pz1 kz1 cz1, .slice qz1 lz1 dz1]) b) (ha' : NRep w (.agg #[.bool s2, .slice p2 k2 c2, .slice q2 l2 d2]) a') (hb' : NRep w (.agg #[.bool sz2, .slice pz2 kz2 cz2, .slice qz2 lz2 dz2]) b')
  (h1 : large a.2.1 a.2.2 = false) (h2 : large b.2.1 b.2.2 = false) (h3 : large a'.2.1 a'.2.2 = false) (h4 : large b'.2.1 b'.2.2 = false) (ht : TabOk w)
  (hfn : ∀ args W, (callFunc g args).run Tryz.prog W = .ok (.enter g args) W)
  (hop : ∀ W (i3 : Int) (s3 : Bool) (p3 : Option Addr) (k3 c3 : Nat) (q3 : Option Addr) (l3 d3 : Nat) (j3 : Int) (sz3 : Bool) (pz3 : Option Addr) (kz3 cz3 : Nat) (qz3 : Option Addr) (lz3 dz3 : Nat) (e3 : Bool) (i4 : Int) (s4 : Bool) (p4 : Option Addr) (k4 c4 : Nat) (q4 : Option Addr) (l4 d4 : Nat) (j4 : Int) (sz4 : Bool) (pz4 : Option Addr) (kz4 cz4 : Nat) (qz4 : Option Addr) (lz4 dz4 : Nat) (e4 : Bool), Below w.heap.size w W → SRep W (.agg #[.int .i64 i3, .bool s3, .slice p3 k3 c3, .slice q3 l3 d3, .int .i64 j3, .bool sz3, .slice pz3 kz3 cz3, .slice qz3 lz3 dz3, .bool e3]) (srd (a, b, x1, y1)) → SRep W (.agg #[.int .i64 i4, .bool s4, .slice p4 k4 c4, .slice q4 l4 d4, .int .i64 j4, .bool sz4, .slice pz4 kz4 cz4, .slice qz4 lz4 dz4, .bool e4]) (srd (a', b', x2, y2)) → Calls Tryz.prog g (#[.agg #[.int .i64 i3, .bool s3, .slice p3 k3 c3, .slice q3 l3 d3, .int .i64 j3, .bool sz3, .slice pz3 kz3 cz3, .slice qz3 lz3 dz3, .bool e3], .agg #[.int .i64 i4, .bool s4, .slice p4 k4 c4, .slice q4 l4 d4, .int .i64 j4, .bool sz4, .slice pz4 kz4 cz4, .slice qz4 lz4 dz4, .bool e4]] ++ cap) W fun e w' => (k = true ∧ ∃ s5 p5 k5 c5 q5 l5 d5 sz5 pz5 kz5 cz5 qz5 lz5 dz5 x5 y5, e = .returned (.agg #[.bool s5, .slice p5 k5 c5, .slice q5 l5 d5, .bool sz5, .slice pz5 kz5 cz5, .slice qz5 lz5 dz5, .bool x5, .bool y5]) ∧ Hid (GRep w' (.agg #[.bool s5, .slice p5 k5 c5, .slice q5 l5 d5, .bool sz5, .slice pz5 kz5 cz5, .slice qz5 lz5 dz5, .bool x5, .bool y5]) D) ∧ Below W.heap.size W w') ∨ (k = false ∧ e = pan c ∧ Below W.heap.size W w')) :
  Calls Tryz.prog 211 #[.pointer (some ⟨Ba, 0, none⟩), .pointer (some ⟨Bb, 0, none⟩), .pointer (some ⟨Bo, 0, none⟩)] w fun e w' => (k = true ∧ ∃ s5 p5 k5 c5 q5 l5 d5 sz5 pz5 kz5 cz5 qz5 lz5 dz5 x5 y5, e = .returned (.agg #[.bool s5, .slice p5 k5 c5, .slice q5 l5 d5, .bool sz5, .slice pz5 kz5 cz5, .slice qz5 lz5 dz5, .bool x5, .bool y5]) ∧ Hid (GRep w' (.agg #[.bool s5, .slice p5 k5 c5, .slice q5 l5 d5, .bool sz5, .slice pz5 kz5 cz5, .slice qz5 lz5 dz5, .bool x5, .bool y5]) D) ∧ Below w.heap.size w w') ∨ (k = false ∧ e = pan c ∧ Below w.heap.size w w') := by
 have HR1 := hid (fun (W : World) (hW : Below w.heap.size w W) => readSet_ok s1 p1 k1 c1 q1 l1 d1 sz1 pz1 kz1 cz1 qz1 lz1 dz1 x1 y1 a b W (ha.below hW) (hb.below hW) h1 h2 (ht.below hW))
 have HR2 := hid (fun (W : World) (hW : Below w.heap.size w W) => readSet_ok s2 p2 k2 c2 q2 l2 d2 sz2 pz2 kz2 cz2 qz2 lz2 dz2 x2 y2 a' b' W (ha'.below hW) (hb'.below hW) h3 h4 (ht.below hW))
 have HO := hid hop
 clear ha hb ha' hb' h1 h2 h3 h4 ht hop
 obtain ⟨r1, hr1⟩ : ∃ r, r = srd (a, b, x1, y1) := ⟨_, rfl⟩
 obtain ⟨r2, hr2⟩ : ∃ r, r = srd (a', b', x2, y2) := ⟨_, rfl⟩
 rw [← hr1] at HR1 HO
 rw [← hr2] at HR2 HO
 clear hr1 hr2
 have HP := hid (And.intro hBa (And.intro hBb hBo))
 have hla := hBa.lt
 have hlb := hBb.lt
 have hlo := hBo.lt
 clear hBa hBb hBo
 go_enter Tryz.func211, Tryz.ntmps211
 go_upto_region 1 with fail
 generalize hA : World.alloc _ _ = W0
 have HV := hid (pre1_o hA nd8)
 clear hA
 have hz0 : w.heap.size < W0.heap.size := HV.out.1.lt
 go_cut [4, 5] from 6 to 10 (fun v3 v4 wx => CutAB W0 r1 r2 v3 v4 wx)
 case first =>
  have HS := hid (fun (w' : World) (hb : QQ W0 [(Ba, [.bool s1, .slice p1 k1 c1, .slice q1 l1 d1, .bool sz1, .slice pz1 kz1 cz1, .slice qz1 lz1 dz1, .bool x1, .bool y1]), (Bb, [.bool s2, .slice p2 k2 c2, .slice q2 l2 d2, .bool sz2, .slice pz2 kz2 cz2, .slice qz2 lz2 dz2, .bool x2, .bool y2])] w') => hb.s_8_8)
  have HQ := hid (QQ.i2 (cs := [.bool s1, .slice p1 k1 c1, .slice q1 l1 d1, .bool sz1, .slice pz1 kz1 cz1, .slice qz1 lz1 dz1, .bool x1, .bool y1]) (cs' := [.bool s2, .slice p2 k2 c2, .slice q2 l2 d2, .bool sz2, .slice pz2 kz2 cz2, .slice qz2 lz2 dz2, .bool x2, .bool y2]) (HP.out.1.below HV.out.2) (HP.out.2.1.below HV.out.2) (Below.refl W0.heap.size W0))
  refine wp_region_noPanic ?_
  refine wp_region_held_drew (S := (fun w' => w'.cell? ⟨Ba, 0, none⟩ = some (.bool s1) ∧ w'.cell? ⟨Ba, 1, none⟩ = some (.slice p1 k1 c1) ∧ w'.cell? ⟨Ba, 2, none⟩ = some (.slice q1 l1 d1) ∧ w'.cell? ⟨Ba, 3, none⟩ = some (.bool sz1) ∧ w'.cell? ⟨Ba, 4, none⟩ = some (.slice pz1 kz1 cz1) ∧ w'.cell? ⟨Ba, 5, none⟩ = some (.slice qz1 lz1 dz1) ∧ w'.cell? ⟨Ba, 6, none⟩ = some (.bool x1) ∧ w'.cell? ⟨Ba, 7, none⟩ = some (.bool y1) ∧ w'.cell? ⟨Bb, 0, none⟩ = some (.bool s2) ∧ w'.cell? ⟨Bb, 1, none⟩ = some (.slice p2 k2 c2) ∧ w'.cell? ⟨Bb, 2, none⟩ = some (.slice q2 l2 d2) ∧ w'.cell? ⟨Bb, 3, none⟩ = some (.bool sz2) ∧ w'.cell? ⟨Bb, 4, none⟩ = some (.slice pz2 kz2 cz2) ∧ w'.cell? ⟨Bb, 5, none⟩ = some (.slice qz2 lz2 dz2) ∧ w'.cell? ⟨Bb, 6, none⟩ = some (.bool x2) ∧ w'.cell? ⟨Bb, 7, none⟩ = some (.bool y2) ∧ Hid (QQ W0 [(Ba, [.bool s1, .slice p1 k1 c1, .slice q1 l1 d1, .bool sz1, .slice pz1 kz1 cz1, .slice qz1 lz1 dz1, .bool x1, .bool y1]), (Bb, [.bool s2, .slice p2 k2 c2, .slice q2 l2 d2, .bool sz2, .slice pz2 kz2 cz2, .slice qz2 lz2 dz2, .bool x2, .bool y2])] w'))) (by kernel_rfl) (HS.out _ HQ.out.drew) (fun hHeld => ?_)
  refine wpAnyH_take (i := 0) (v := ?vv0) rfl (by kernel_rfl) (by kernel_rfl) (by kernel_rfl) (fun _ _ _ h => h) (Or.inl ⟨by rfl, ?hy0⟩) (by assumption) ?_
  case hy0 => (intro w' hSw; (try dsimp only at hSw); go_simp; first | done | with_reducible rfl)
  simp only [Act.put]
  refine wpAnyH_take (i := 2) (v := ?vv2) rfl (by kernel_rfl) (by kernel_rfl) (by kernel_rfl) (fun _ _ _ h => h) (Or.inl ⟨by rfl, ?hy2⟩) (by assumption) ?_
  case hy2 => (intro w' hSw; (try dsimp only at hSw); go_simp; first | done | with_reducible rfl)
  simp only [Act.put]
  have hQ0 := HQ.out.drew; have hz : W0.heap.size ≤ W0.drew.heap.size := Nat.le_refl _; generalize W0.drew = v0 at *
  refine wpAnyH_ready (rs := [1, 4, 5]) (by kernel_rfl) (by simp) ?_
  refine .cons rfl (fun K hK => ?_) (.cons rfl (fun K hK => ?_) (.cons rfl (fun K hK => ?_) .nil))
  ·go_simp
   go_at_call 79
   refine (HR1.out _ (HV.out.2.trans (hQ0.bel.mono HV.out.2.size))).mono ?_
   rintro e v1 ⟨i3, s3, p3, k3, c3, q3, l3, d3, j3, sz3, pz3, kz3, cz3, qz3, lz3, dz3, e3, rfl, hF1, hB1⟩
   have hQ1 := hQ0.call hB1
   have hz1 : v0.heap.size ≤ v1.heap.size := hB1.size
   go_wp2_with fail
   refine hK.out _ _ (HS.out _ hQ1) (fun hHeld => ?_)
   clear hK K
   try simp only [Act.put, setIfInBounds_toArray, set_cons_zero, set_cons_succ]
   refine wpAnyH_ready (rs := [3, 4, 5]) (by kernel_rfl) (by simp) ?_
   refine .cons rfl (fun K hK => ?_) (.cons rfl (fun K hK => ?_) (.cons rfl (fun K hK => ?_) .nil))
   ·go_simp
    go_at_call 79
    refine (HR2.out _ (HV.out.2.trans (hQ1.bel.mono HV.out.2.size))).mono ?_
    rintro e v2 ⟨i4, s4, p4, k4, c4, q4, l4, d4, j4, sz4, pz4, kz4, cz4, qz4, lz4, dz4, e4, rfl, hF2, hB2⟩
    have hQ2 := hQ1.call hB2
    have hz2 : v1.heap.size ≤ v2.heap.size := hB2.size
    have hG02 := hid (SRep.below hF1.out hB2)
    go_wp2_with fail
    refine hK.out _ _ (HS.out _ hQ2) (fun hHeld => ?_)
    clear hK K
    try simp only [Act.put, setIfInBounds_toArray, set_cons_zero, set_cons_succ]
    refine wpAnyH_ready (rs := [4, 5]) (by kernel_rfl) (by simp) ?_
    refine .cons rfl (fun K hK => ?_) (.cons rfl (fun K hK => ?_) .nil)
    ·go_simp
     generalize hA3 : World.alloc _ _ = v3
     obtain ⟨hB3, hX3, hz3⟩ := al_step hA3 nd_S
     clear hA3
     have hQ3 := hQ2.call hB3
     have hG03 := hid (SRep.below hG02.out hB3)
     have hG13 := hid (SRep.below hF2.out hB3)
     refine hK.out _ _ (HS.out _ hQ3) (fun hHeld => ?_)
     clear hK K
     try simp only [Act.put, setIfInBounds_toArray, set_cons_zero, set_cons_succ]
     refine wpAnyH_ready (rs := [5]) (by kernel_rfl) (by simp) ?_
     refine .cons rfl (fun K hK => ?_) .nil
     ·go_simp
      generalize hA4 : World.alloc _ _ = v4
      obtain ⟨hB4, hY4, hz4⟩ := al_step hA4 nd_S
      clear hA4
      have hQ4 := hQ3.call hB4
      have hX4 := hX3.below hB4
      have hG04 := hid (SRep.below hG03.out hB4)
      have hG14 := hid (SRep.below hG13.out hB4)
      refine hK.out _ _ (HS.out _ hQ4) (fun hHeld => ?_)
      clear hK K
      try simp only [Act.put, setIfInBounds_toArray, set_cons_zero, set_cons_succ]
      refine wpAnyH_ready (rs := [6]) (by kernel_rfl) (by simp) ?_
      refine .cons rfl (fun K hK => ?_) .nil
      ·obtain ⟨g5_0, g5_1, g5_2, g5_3, g5_4, g5_5, g5_6, g5_7, g5_8, g5_9, g5_10, g5_11, g5_12, g5_13, g5_14, g5_15, g5_16, g5_17⟩ := hX4.cells9
       go_simp
       generalize hW5 : World.setCell _ _ _ = v5
       obtain ⟨hQ5, hX5, hY5, hG05, hG15, hz5⟩ := st_X (w := v4) (B := v2.heap.size) hW5 hQ4 hX4 rfl (ne2 (by omega) (by omega)) (by omega) hY4 (by omega) hG04 hG14
       clear hW5
       refine hK.out _ _ (HS.out _ hQ5) (fun hHeld => ?_)
       clear hK K
       try simp only [Act.put, setIfInBounds_toArray, set_cons_zero, set_cons_succ]
       refine wpAnyH_ready (rs := [7]) (by kernel_rfl) (by simp) ?_
       refine .cons rfl (fun K hK => ?_) .nil
       ·obtain ⟨g6_0, g6_1, g6_2, g6_3, g6_4, g6_5, g6_6, g6_7, g6_8, g6_9, g6_10, g6_11, g6_12, g6_13, g6_14, g6_15, g6_16, g6_17⟩ := hY5.cells9
        go_simp
        generalize hW6 : World.setCell _ _ _ = v6
        obtain ⟨hQ6, hY6, hX6, hG06, hG16, hz6⟩ := st_Y (w := v5) (B := v3.heap.size) hW6 hQ5 hY5 rfl (ne2 (by omega) (by omega)) (by omega) hX5 (by omega) hG05 hG15
        clear hW6
        refine hK.out _ _ (HS.out _ hQ6) (fun hHeld => ?_)
        clear hK K
        try simp only [Act.put, setIfInBounds_toArray, set_cons_zero, set_cons_succ]
        refine wpAnyH_done (by kernel_rfl) (NoPanic.normal ?_) _
        go_wp2_with fail
        go_meet
        exact ⟨v2.heap.size, v3.heap.size, i3, s3, p3, k3, c3, q3, l3, d3, j3, sz3, pz3, kz3, cz3, qz3, lz3, dz3, e3, i4, s4, p4, k4, c4, q4, l4, d4, j4, sz4, pz4, kz4, cz4, qz4, lz4, dz4, e4, rfl, rfl, by omega, hX6, hY6, hG06.out, hG16.out, hQ6.bel, by omega, by omega⟩
    ·go_simp
     generalize hA7 : World.alloc _ _ = v7
     obtain ⟨hB7, hY7, hz7⟩ := al_step hA7 nd_S
     clear hA7
     have hQ7 := hQ2.call hB7
     have hG07 := hid (SRep.below hG02.out hB7)
     have hG17 := hid (SRep.below hF2.out hB7)
     refine hK.out _ _ (HS.out _ hQ7) (fun hHeld => ?_)
     clear hK K
     try simp only [Act.put, setIfInBounds_toArray, set_cons_zero, set_cons_succ]
     refine wpAnyH_ready (rs := [4]) (by kernel_rfl) (by simp) ?_
     refine .cons rfl (fun K hK => ?_) .nil
     ·go_simp
      generalize hA8 : World.alloc _ _ = v8
      obtain ⟨hB8, hX8, hz8⟩ := al_step hA8 nd_S
      clear hA8
      have hQ8 := hQ7.call hB8
      have hY8 := hY7.below hB8
      have hG08 := hid (SRep.below hG07.out hB8)
      have hG18 := hid (SRep.below hG17.out hB8)
      refine hK.out _ _ (HS.out _ hQ8) (fun hHeld => ?_)
      clear hK K
      try simp only [Act.put, setIfInBounds_toArray, set_cons_zero, set_cons_succ]
      refine wpAnyH_ready (rs := [6]) (by kernel_rfl) (by simp) ?_
      refine .cons rfl (fun K hK => ?_) .nil
      ·obtain ⟨g9_0, g9_1, g9_2, g9_3, g9_4, g9_5, g9_6, g9_7, g9_8, g9_9, g9_10, g9_11, g9_12, g9_13, g9_14, g9_15, g9_16, g9_17⟩ := hX8.cells9
       go_simp
       generalize hW9 : World.setCell _ _ _ = v9
       obtain ⟨hQ9, hX9, hY9, hG09, hG19, hz9⟩ := st_X (w := v8) (B := v7.heap.size) hW9 hQ8 hX8 rfl (ne2 (by omega) (by omega)) (by omega) hY8 (by omega) hG08 hG18
       clear hW9
       refine hK.out _ _ (HS.out _ hQ9) (fun hHeld => ?_)
       clear hK K
       try simp only [Act.put, setIfInBounds_toArray, set_cons_zero, set_cons_succ]
       refine wpAnyH_ready (rs := [7]) (by kernel_rfl) (by simp) ?_
       refine .cons rfl (fun K hK => ?_) .nil
       ·obtain ⟨g10_0, g10_1, g10_2, g10_3, g10_4, g10_5, g10_6, g10_7, g10_8, g10_9, g10_10, g10_11, g10_12, g10_13, g10_14, g10_15, g10_16, g10_17⟩ := hY9.cells9
        go_simp
        generalize hW10 : World.setCell _ _ _ = v10
        obtain ⟨hQ10, hY10, hX10, hG010, hG110, hz10⟩ := st_Y (w := v9) (B := v2.heap.size) hW10 hQ9 hY9 rfl (ne2 (by omega) (by omega)) (by omega) hX9 (by omega) hG09 hG19
        clear hW10
        refine hK.out _ _ (HS.out _ hQ10) (fun hHeld => ?_)
        clear hK K
        try simp only [Act.put, setIfInBounds_toArray, set_cons_zero, set_cons_succ]
        refine wpAnyH_done (by kernel_rfl) (NoPanic.normal ?_) _
        go_wp2_with fail
        go_meet
        exact ⟨v7.heap.size, v2.heap.size, i3, s3, p3, k3, c3, q3, l3, d3, j3, sz3, pz3, kz3, cz3, qz3, lz3, dz3, e3, i4, s4, p4, k4, c4, q4, l4, d4, j4, sz4, pz4, kz4, cz4, qz4, lz4, dz4, e4, rfl, rfl, by omega, hX10, hY10, hG010.out, hG110.out, hQ10.bel, by omega, by omega⟩
   ·go_simp
    generalize hA11 : World.alloc _ _ = v11
    obtain ⟨hB11, hX11, hz11⟩ := al_step hA11 nd_S
    clear hA11
    have hQ11 := hQ1.call hB11
    have hG011 := hid (SRep.below hF1.out hB11)
    refine hK.out _ _ (HS.out _ hQ11) (fun hHeld => ?_)
    clear hK K
    try simp only [Act.put, setIfInBounds_toArray, set_cons_zero, set_cons_succ]
    refine wpAnyH_ready (rs := [3, 5]) (by kernel_rfl) (by simp) ?_
    refine .cons rfl (fun K hK => ?_) (.cons rfl (fun K hK => ?_) .nil)
    ·go_simp
     go_at_call 79
     refine (HR2.out _ (HV.out.2.trans (hQ11.bel.mono HV.out.2.size))).mono ?_
     rintro e v12 ⟨i4, s4, p4, k4, c4, q4, l4, d4, j4, sz4, pz4, kz4, cz4, qz4, lz4, dz4, e4, rfl, hF12, hB12⟩
     have hQ12 := hQ11.call hB12
     have hz12 : v11.heap.size ≤ v12.heap.size := hB12.size
     have hX12 := hX11.below hB12
     have hG012 := hid (SRep.below hG011.out hB12)
     go_wp2_with fail
     refine hK.out _ _ (HS.out _ hQ12) (fun hHeld => ?_)
     clear hK K
     try simp only [Act.put, setIfInBounds_toArray, set_cons_zero, set_cons_succ]
     refine wpAnyH_ready (rs := [5]) (by kernel_rfl) (by simp) ?_
     refine .cons rfl (fun K hK => ?_) .nil
     ·go_simp
      generalize hA13 : World.alloc _ _ = v13
      obtain ⟨hB13, hY13, hz13⟩ := al_step hA13 nd_S
      clear hA13
      have hQ13 := hQ12.call hB13
      have hX13 := hX12.below hB13
      have hG013 := hid (SRep.below hG012.out hB13)
      have hG113 := hid (SRep.below hF12.out hB13)
      refine hK.out _ _ (HS.out _ hQ13) (fun hHeld => ?_)
      clear hK K
      try simp only [Act.put, setIfInBounds_toArray, set_cons_zero, set_cons_succ]
      refine wpAnyH_ready (rs := [6]) (by kernel_rfl) (by simp) ?_
      refine .cons rfl (fun K hK => ?_) .nil
      ·obtain ⟨g14_0, g14_1, g14_2, g14_3, g14_4, g14_5, g14_6, g14_7, g14_8, g14_9, g14_10, g14_11, g14_12, g14_13, g14_14, g14_15, g14_16, g14_17⟩ := hX13.cells9
       go_simp
       generalize hW14 : World.setCell _ _ _ = v14
       obtain ⟨hQ14, hX14, hY14, hG014, hG114, hz14⟩ := st_X (w := v13) (B := v1.heap.size) hW14 hQ13 hX13 rfl (ne2 (by omega) (by omega)) (by omega) hY13 (by omega) hG013 hG113
       clear hW14
       refine hK.out _ _ (HS.out _ hQ14) (fun hHeld => ?_)
       clear hK K
       try simp only [Act.put, setIfInBounds_toArray, set_cons_zero, set_cons_succ]
       refine wpAnyH_ready (rs := [7]) (by kernel_rfl) (by simp) ?_
       refine .cons rfl (fun K hK => ?_) .nil
       ·obtain ⟨g15_0, g15_1, g15_2, g15_3, g15_4, g15_5, g15_6, g15_7, g15_8, g15_9, g15_10, g15_11, g15_12, g15_13, g15_14, g15_15, g15_16, g15_17⟩ := hY14.cells9
        go_simp
        generalize hW15 : World.setCell _ _ _ = v15
        obtain ⟨hQ15, hY15, hX15, hG015, hG115, hz15⟩ := st_Y (w := v14) (B := v12.heap.size) hW15 hQ14 hY14 rfl (ne2 (by omega) (by omega)) (by omega) hX14 (by omega) hG014 hG114
        clear hW15
        refine hK.out _ _ (HS.out _ hQ15) (fun hHeld => ?_)
        clear hK K
        try simp only [Act.put, setIfInBounds_toArray, set_cons_zero, set_cons_succ]
        refine wpAnyH_done (by kernel_rfl) (NoPanic.normal ?_) _
        go_wp2_with fail
        go_meet
        exact ⟨v1.heap.size, v12.heap.size, i3, s3, p3, k3, c3, q3, l3, d3, j3, sz3, pz3, kz3, cz3, qz3, lz3, dz3, e3, i4, s4, p4, k4, c4, q4, l4, d4, j4, sz4, pz4, kz4, cz4, qz4, lz4, dz4, e4, rfl, rfl, by omega, hX15, hY15, hG015.out, hG115.out, hQ15.bel, by omega, by omega⟩
    ·go_simp
     generalize hA16 : World.alloc _ _ = v16
     obtain ⟨hB16, hY16, hz16⟩ := al_step hA16 nd_S
     clear hA16
     have hQ16 := hQ11.call hB16
     have hX16 := hX11.below hB16
     have hG016 := hid (SRep.below hG011.out hB16)
     refine hK.out _ _ (HS.out _ hQ16) (fun hHeld => ?_)
     clear hK K
     try simp only [Act.put, setIfInBounds_toArray, set_cons_zero, set_cons_succ]
     refine wpAnyH_ready (rs := [3]) (by kernel_rfl) (by simp) ?_
     refine .cons rfl (fun K hK => ?_) .nil
     ·go_simp
      go_at_call 79
      refine (HR2.out _ (HV.out.2.trans (hQ16.bel.mono HV.out.2.size))).mono ?_
      rintro e v17 ⟨i4, s4, p4, k4, c4, q4, l4, d4, j4, sz4, pz4, kz4, cz4, qz4, lz4, dz4, e4, rfl, hF17, hB17⟩
      have hQ17 := hQ16.call hB17
      have hz17 : v16.heap.size ≤ v17.heap.size := hB17.size
      have hX17 := hX16.below hB17
      have hY17 := hY16.below hB17
      have hG017 := hid (SRep.below hG016.out hB17)
      go_wp2_with fail
      refine hK.out _ _ (HS.out _ hQ17) (fun hHeld => ?_)
      clear hK K
      try simp only [Act.put, setIfInBounds_toArray, set_cons_zero, set_cons_succ]
      refine wpAnyH_ready (rs := [6]) (by kernel_rfl) (by simp) ?_
      refine .cons rfl (fun K hK => ?_) .nil
      ·obtain ⟨g18_0, g18_1, g18_2, g18_3, g18_4, g18_5, g18_6, g18_7, g18_8, g18_9, g18_10, g18_11, g18_12, g18_13, g18_14, g18_15, g18_16, g18_17⟩ := hX17.cells9
       go_simp
       generalize hW18 : World.setCell _ _ _ = v18
       obtain ⟨hQ18, hX18, hY18, hG018, hG118, hz18⟩ := st_X (w := v17) (B := v1.heap.size) hW18 hQ17 hX17 rfl (ne2 (by omega) (by omega)) (by omega) hY17 (by omega) hG017 hF17
       clear hW18
       refine hK.out _ _ (HS.out _ hQ18) (fun hHeld => ?_)
       clear hK K
       try simp only [Act.put, setIfInBounds_toArray, set_cons_zero, set_cons_succ]
       refine wpAnyH_ready (rs := [7]) (by kernel_rfl) (by simp) ?_
       refine .cons rfl (fun K hK => ?_) .nil
       ·obtain ⟨g19_0, g19_1, g19_2, g19_3, g19_4, g19_5, g19_6, g19_7, g19_8, g19_9, g19_10, g19_11, g19_12, g19_13, g19_14, g19_15, g19_16, g19_17⟩ := hY18.cells9
        go_simp
        generalize hW19 : World.setCell _ _ _ = v19
        obtain ⟨hQ19, hY19, hX19, hG019, hG119, hz19⟩ := st_Y (w := v18) (B := v11.heap.size) hW19 hQ18 hY18 rfl (ne2 (by omega) (by omega)) (by omega) hX18 (by omega) hG018 hG118
        clear hW19
        refine hK.out _ _ (HS.out _ hQ19) (fun hHeld => ?_)
        clear hK K
        try simp only [Act.put, setIfInBounds_toArray, set_cons_zero, set_cons_succ]
        refine wpAnyH_done (by kernel_rfl) (NoPanic.normal ?_) _
        go_wp2_with fail
        go_meet
        exact ⟨v1.heap.size, v11.heap.size, i3, s3, p3, k3, c3, q3, l3, d3, j3, sz3, pz3, kz3, cz3, qz3, lz3, dz3, e3, i4, s4, p4, k4, c4, q4, l4, d4, j4, sz4, pz4, kz4, cz4, qz4, lz4, dz4, e4, rfl, rfl, by omega, hX19, hY19, hG019.out, hG119.out, hQ19.bel, by omega, by omega⟩
   ·go_simp
    generalize hA20 : World.alloc _ _ = v20
    obtain ⟨hB20, hY20, hz20⟩ := al_step hA20 nd_S
    clear hA20
    have hQ20 := hQ1.call hB20
    have hG020 := hid (SRep.below hF1.out hB20)
    refine hK.out _ _ (HS.out _ hQ20) (fun hHeld => ?_)
    clear hK K
    try simp only [Act.put, setIfInBounds_toArray, set_cons_zero, set_cons_succ]
    refine wpAnyH_ready (rs := [3, 4]) (by kernel_rfl) (by simp) ?_
    refine .cons rfl (fun K hK => ?_) (.cons rfl (fun K hK => ?_) .nil)
    ·go_simp
     go_at_call 79
     refine (HR2.out _ (HV.out.2.trans (hQ20.bel.mono HV.out.2.size))).mono ?_
     rintro e v21 ⟨i4, s4, p4, k4, c4, q4, l4, d4, j4, sz4, pz4, kz4, cz4, qz4, lz4, dz4, e4, rfl, hF21, hB21⟩
     have hQ21 := hQ20.call hB21
     have hz21 : v20.heap.size ≤ v21.heap.size := hB21.size
     have hY21 := hY20.below hB21
     have hG021 := hid (SRep.below hG020.out hB21)
     go_wp2_with fail
     refine hK.out _ _ (HS.out _ hQ21) (fun hHeld => ?_)
     clear hK K
     try simp only [Act.put, setIfInBounds_toArray, set_cons_zero, set_cons_succ]
     refine wpAnyH_ready (rs := [4]) (by kernel_rfl) (by simp) ?_
     refine .cons rfl (fun K hK => ?_) .nil
     ·go_simp
      generalize hA22 : World.alloc _ _ = v22
      obtain ⟨hB22, hX22, hz22⟩ := al_step hA22 nd_S
      clear hA22
      have hQ22 := hQ21.call hB22
      have hY22 := hY21.below hB22
      have hG022 := hid (SRep.below hG021.out hB22)
      have hG122 := hid (SRep.below hF21.out hB22)
      refine hK.out _ _ (HS.out _ hQ22) (fun hHeld => ?_)
      clear hK K
      try simp only [Act.put, setIfInBounds_toArray, set_cons_zero, set_cons_succ]
      refine wpAnyH_ready (rs := [6]) (by kernel_rfl) (by simp) ?_
      refine .cons rfl (fun K hK => ?_) .nil
      ·obtain ⟨g23_0, g23_1, g23_2, g23_3, g23_4, g23_5, g23_6, g23_7, g23_8, g23_9, g23_10, g23_11, g23_12, g23_13, g23_14, g23_15, g23_16, g23_17⟩ := hX22.cells9
       go_simp
       generalize hW23 : World.setCell _ _ _ = v23
       obtain ⟨hQ23, hX23, hY23, hG023, hG123, hz23⟩ := st_X (w := v22) (B := v21.heap.size) hW23 hQ22 hX22 rfl (ne2 (by omega) (by omega)) (by omega) hY22 (by omega) hG022 hG122
       clear hW23
       refine hK.out _ _ (HS.out _ hQ23) (fun hHeld => ?_)
       clear hK K
       try simp only [Act.put, setIfInBounds_toArray, set_cons_zero, set_cons_succ]
       refine wpAnyH_ready (rs := [7]) (by kernel_rfl) (by simp) ?_
       refine .cons rfl (fun K hK => ?_) .nil
       ·obtain ⟨g24_0, g24_1, g24_2, g24_3, g24_4, g24_5, g24_6, g24_7, g24_8, g24_9, g24_10, g24_11, g24_12, g24_13, g24_14, g24_15, g24_16, g24_17⟩ := hY23.cells9
        go_simp
        generalize hW24 : World.setCell _ _ _ = v24
        obtain ⟨hQ24, hY24, hX24, hG024, hG124, hz24⟩ := st_Y (w := v23) (B := v1.heap.size) hW24 hQ23 hY23 rfl (ne2 (by omega) (by omega)) (by omega) hX23 (by omega) hG023 hG123
        clear hW24
        refine hK.out _ _ (HS.out _ hQ24) (fun hHeld => ?_)
        clear hK K
        try simp only [Act.put, setIfInBounds_toArray, set_cons_zero, set_cons_succ]
        refine wpAnyH_done (by kernel_rfl) (NoPanic.normal ?_) _
        go_wp2_with fail
        go_meet
        exact ⟨v21.heap.size, v1.heap.size, i3, s3, p3, k3, c3, q3, l3, d3, j3, sz3, pz3, kz3, cz3, qz3, lz3, dz3, e3, i4, s4, p4, k4, c4, q4, l4, d4, j4, sz4, pz4, kz4, cz4, qz4, lz4, dz4, e4, rfl, rfl, by omega, hX24, hY24, hG024.out, hG124.out, hQ24.bel, by omega, by omega⟩
    ·go_simp
     generalize hA25 : World.alloc _ _ = v25
     obtain ⟨hB25, hX25, hz25⟩ := al_step hA25 nd_S
     clear hA25
     have hQ25 := hQ20.call hB25
     have hY25 := hY20.below hB25
     have hG025 := hid (SRep.below hG020.out hB25)
     refine hK.out _ _ (HS.out _ hQ25) (fun hHeld => ?_)
     clear hK K
     try simp only [Act.put, setIfInBounds_toArray, set_cons_zero, set_cons_succ]
     refine wpAnyH_ready (rs := [3]) (by kernel_rfl) (by simp) ?_
     refine .cons rfl (fun K hK => ?_) .nil
     ·go_simp
      go_at_call 79
      refine (HR2.out _ (HV.out.2.trans (hQ25.bel.mono HV.out.2.size))).mono ?_
      rintro e v26 ⟨i4, s4, p4, k4, c4, q4, l4, d4, j4, sz4, pz4, kz4, cz4, qz4, lz4, dz4, e4, rfl, hF26, hB26⟩
      have hQ26 := hQ25.call hB26
      have hz26 : v25.heap.size ≤ v26.heap.size := hB26.size
      have hY26 := hY25.below hB26
      have hX26 := hX25.below hB26
      have hG026 := hid (SRep.below hG025.out hB26)
      go_wp2_with fail
      refine hK.out _ _ (HS.out _ hQ26) (fun hHeld => ?_)
      clear hK K
      try simp only [Act.put, setIfInBounds_toArray, set_cons_zero, set_cons_succ]
      refine wpAnyH_ready (rs := [6]) (by kernel_rfl) (by simp) ?_
      refine .cons rfl (fun K hK => ?_) .nil
      ·obtain ⟨g27_0, g27_1, g27_2, g27_3, g27_4, g27_5, g27_6, g27_7, g27_8, g27_9, g27_10, g27_11, g27_12, g27_13, g27_14, g27_15, g27_16, g27_17⟩ := hX26.cells9
       go_simp
       generalize hW27 : World.setCell _ _ _ = v27
       obtain ⟨hQ27, hX27, hY27, hG027, hG127, hz27⟩ := st_X (w := v26) (B := v20.heap.size) hW27 hQ26 hX26 rfl (ne2 (by omega) (by omega)) (by omega) hY26 (by omega) hG026 hF26
       clear hW27
       refine hK.out _ _ (HS.out _ hQ27) (fun hHeld => ?_)
       clear hK K
       try simp only [Act.put, setIfInBounds_toArray, set_cons_zero, set_cons_succ]
       refine wpAnyH_ready (rs := [7]) (by kernel_rfl) (by simp) ?_
       refine .cons rfl (fun K hK => ?_) .nil
       ·obtain ⟨g28_0, g28_1, g28_2, g28_3, g28_4, g28_5, g28_6, g28_7, g28_8, g28_9, g28_10, g28_11, g28_12, g28_13, g28_14, g28_15, g28_16, g28_17⟩ := hY27.cells9
        go_simp
        generalize hW28 : World.setCell _ _ _ = v28
        obtain ⟨hQ28, hY28, hX28, hG028, hG128, hz28⟩ := st_Y (w := v27) (B := v1.heap.size) hW28 hQ27 hY27 rfl (ne2 (by omega) (by omega)) (by omega) hX27 (by omega) hG027 hG127
        clear hW28
        refine hK.out _ _ (HS.out _ hQ28) (fun hHeld => ?_)
        clear hK K
        try simp only [Act.put, setIfInBounds_toArray, set_cons_zero, set_cons_succ]
        refine wpAnyH_done (by kernel_rfl) (NoPanic.normal ?_) _
        go_wp2_with fail
        go_meet
        exact ⟨v20.heap.size, v1.heap.size, i3, s3, p3, k3, c3, q3, l3, d3, j3, sz3, pz3, kz3, cz3, qz3, lz3, dz3, e3, i4, s4, p4, k4, c4, q4, l4, d4, j4, sz4, pz4, kz4, cz4, qz4, lz4, dz4, e4, rfl, rfl, by omega, hX28, hY28, hG028.out, hG128.out, hQ28.bel, by omega, by omega⟩
  ·go_simp
   generalize hA29 : World.alloc _ _ = v29
   obtain ⟨hB29, hX29, hz29⟩ := al_step hA29 nd_S
   clear hA29
   have hQ29 := hQ0.call hB29
   refine hK.out _ _ (HS.out _ hQ29) (fun hHeld => ?_)
   clear hK K
   try simp only [Act.put, setIfInBounds_toArray, set_cons_zero, set_cons_succ]
   refine wpAnyH_ready (rs := [1, 5]) (by kernel_rfl) (by simp) ?_
   refine .cons rfl (fun K hK => ?_) (.cons rfl (fun K hK => ?_) .nil)
   ·go_simp
    go_at_call 79
    refine (HR1.out _ (HV.out.2.trans (hQ29.bel.mono HV.out.2.size))).mono ?_
    rintro e v30 ⟨i3, s3, p3, k3, c3, q3, l3, d3, j3, sz3, pz3, kz3, cz3, qz3, lz3, dz3, e3, rfl, hF30, hB30⟩
    have hQ30 := hQ29.call hB30
    have hz30 : v29.heap.size ≤ v30.heap.size := hB30.size
    have hX30 := hX29.below hB30
    go_wp2_with fail
    refine hK.out _ _ (HS.out _ hQ30) (fun hHeld => ?_)
    clear hK K
    try simp only [Act.put, setIfInBounds_toArray, set_cons_zero, set_cons_succ]
    refine wpAnyH_ready (rs := [3, 5]) (by kernel_rfl) (by simp) ?_
    refine .cons rfl (fun K hK => ?_) (.cons rfl (fun K hK => ?_) .nil)
    ·go_simp
     go_at_call 79
     refine (HR2.out _ (HV.out.2.trans (hQ30.bel.mono HV.out.2.size))).mono ?_
     rintro e v31 ⟨i4, s4, p4, k4, c4, q4, l4, d4, j4, sz4, pz4, kz4, cz4, qz4, lz4, dz4, e4, rfl, hF31, hB31⟩
     have hQ31 := hQ30.call hB31
     have hz31 : v30.heap.size ≤ v31.heap.size := hB31.size
     have hX31 := hX30.below hB31
     have hG031 := hid (SRep.below hF30.out hB31)
     go_wp2_with fail
     refine hK.out _ _ (HS.out _ hQ31) (fun hHeld => ?_)
     clear hK K
     try simp only [Act.put, setIfInBounds_toArray, set_cons_zero, set_cons_succ]
     refine wpAnyH_ready (rs := [5]) (by kernel_rfl) (by simp) ?_
     refine .cons rfl (fun K hK => ?_) .nil
     ·go_simp
      generalize hA32 : World.alloc _ _ = v32
      obtain ⟨hB32, hY32, hz32⟩ := al_step hA32 nd_S
      clear hA32
      have hQ32 := hQ31.call hB32
      have hX32 := hX31.below hB32
      have hG032 := hid (SRep.below hG031.out hB32)
      have hG132 := hid (SRep.below hF31.out hB32)
      refine hK.out _ _ (HS.out _ hQ32) (fun hHeld => ?_)
      clear hK K
      try simp only [Act.put, setIfInBounds_toArray, set_cons_zero, set_cons_succ]
      refine wpAnyH_ready (rs := [6]) (by kernel_rfl) (by simp) ?_
      refine .cons rfl (fun K hK => ?_) .nil
      ·obtain ⟨g33_0, g33_1, g33_2, g33_3, g33_4, g33_5, g33_6, g33_7, g33_8, g33_9, g33_10, g33_11, g33_12, g33_13, g33_14, g33_15, g33_16, g33_17⟩ := hX32.cells9
       go_simp
       generalize hW33 : World.setCell _ _ _ = v33
       obtain ⟨hQ33, hX33, hY33, hG033, hG133, hz33⟩ := st_X (w := v32) (B := v0.heap.size) hW33 hQ32 hX32 rfl (ne2 (by omega) (by omega)) (by omega) hY32 (by omega) hG032 hG132
       clear hW33
       refine hK.out _ _ (HS.out _ hQ33) (fun hHeld => ?_)
       clear hK K
       try simp only [Act.put, setIfInBounds_toArray, set_cons_zero, set_cons_succ]
       refine wpAnyH_ready (rs := [7]) (by kernel_rfl) (by simp) ?_
       refine .cons rfl (fun K hK => ?_) .nil
       ·obtain ⟨g34_0, g34_1, g34_2, g34_3, g34_4, g34_5, g34_6, g34_7, g34_8, g34_9, g34_10, g34_11, g34_12, g34_13, g34_14, g34_15, g34_16, g34_17⟩ := hY33.cells9
        go_simp
        generalize hW34 : World.setCell _ _ _ = v34
        obtain ⟨hQ34, hY34, hX34, hG034, hG134, hz34⟩ := st_Y (w := v33) (B := v31.heap.size) hW34 hQ33 hY33 rfl (ne2 (by omega) (by omega)) (by omega) hX33 (by omega) hG033 hG133
        clear hW34
        refine hK.out _ _ (HS.out _ hQ34) (fun hHeld => ?_)
        clear hK K
        try simp only [Act.put, setIfInBounds_toArray, set_cons_zero, set_cons_succ]
        refine wpAnyH_done (by kernel_rfl) (NoPanic.normal ?_) _
        go_wp2_with fail
        go_meet
        exact ⟨v0.heap.size, v31.heap.size, i3, s3, p3, k3, c3, q3, l3, d3, j3, sz3, pz3, kz3, cz3, qz3, lz3, dz3, e3, i4, s4, p4, k4, c4, q4, l4, d4, j4, sz4, pz4, kz4, cz4, qz4, lz4, dz4, e4, rfl, rfl, by omega, hX34, hY34, hG034.out, hG134.out, hQ34.bel, by omega, by omega⟩
    ·go_simp
     generalize hA35 : World.alloc _ _ = v35
     obtain ⟨hB35, hY35, hz35⟩ := al_step hA35 nd_S
     clear hA35
     have hQ35 := hQ30.call hB35
     have hX35 := hX30.below hB35
     have hG035 := hid (SRep.below hF30.out hB35)
     refine hK.out _ _ (HS.out _ hQ35) (fun hHeld => ?_)
     clear hK K
     try simp only [Act.put, setIfInBounds_toArray, set_cons_zero, set_cons_succ]
     refine wpAnyH_ready (rs := [3]) (by kernel_rfl) (by simp) ?_
     refine .cons rfl (fun K hK => ?_) .nil
     ·go_simp
      go_at_call 79
      refine (HR2.out _ (HV.out.2.trans (hQ35.bel.mono HV.out.2.size))).mono ?_
      rintro e v36 ⟨i4, s4, p4, k4, c4, q4, l4, d4, j4, sz4, pz4, kz4, cz4, qz4, lz4, dz4, e4, rfl, hF36, hB36⟩
      have hQ36 := hQ35.call hB36
      have hz36 : v35.heap.size ≤ v36.heap.size := hB36.size
      have hX36 := hX35.below hB36
      have hY36 := hY35.below hB36
      have hG036 := hid (SRep.below hG035.out hB36)
      go_wp2_with fail
      refine hK.out _ _ (HS.out _ hQ36) (fun hHeld => ?_)
      clear hK K
      try simp only [Act.put, setIfInBounds_toArray, set_cons_zero, set_cons_succ]
      refine wpAnyH_ready (rs := [6]) (by kernel_rfl) (by simp) ?_
      refine .cons rfl (fun K hK => ?_) .nil
      ·obtain ⟨g37_0, g37_1, g37_2, g37_3, g37_4, g37_5, g37_6, g37_7, g37_8, g37_9, g37_10, g37_11, g37_12, g37_13, g37_14, g37_15, g37_16, g37_17⟩ := hX36.cells9
       go_simp
       generalize hW37 : World.setCell _ _ _ = v37
       obtain ⟨hQ37, hX37, hY37, hG037, hG137, hz37⟩ := st_X (w := v36) (B := v0.heap.size) hW37 hQ36 hX36 rfl (ne2 (by omega) (by omega)) (by omega) hY36 (by omega) hG036 hF36
       clear hW37
       refine hK.out _ _ (HS.out _ hQ37) (fun hHeld => ?_)
       clear hK K
       try simp only [Act.put, setIfInBounds_toArray, set_cons_zero, set_cons_succ]
       refine wpAnyH_ready (rs := [7]) (by kernel_rfl) (by simp) ?_
       refine .cons rfl (fun K hK => ?_) .nil
       ·obtain ⟨g38_0, g38_1, g38_2, g38_3, g38_4, g38_5, g38_6, g38_7, g38_8, g38_9, g38_10, g38_11, g38_12, g38_13, g38_14, g38_15, g38_16, g38_17⟩ := hY37.cells9
        go_simp
        generalize hW38 : World.setCell _ _ _ = v38
        obtain ⟨hQ38, hY38, hX38, hG038, hG138, hz38⟩ := st_Y (w := v37) (B := v30.heap.size) hW38 hQ37 hY37 rfl (ne2 (by omega) (by omega)) (by omega) hX37 (by omega) hG037 hG137
        clear hW38
        refine hK.out _ _ (HS.out _ hQ38) (fun hHeld => ?_)
        clear hK K
        try simp only [Act.put, setIfInBounds_toArray, set_cons_zero, set_cons_succ]
        refine wpAnyH_done (by kernel_rfl) (NoPanic.normal ?_) _
        go_wp2_with fail
        go_meet
        exact ⟨v0.heap.size, v30.heap.size, i3, s3, p3, k3, c3, q3, l3, d3, j3, sz3, pz3, kz3, cz3, qz3, lz3, dz3, e3, i4, s4, p4, k4, c4, q4, l4, d4, j4, sz4, pz4, kz4, cz4, qz4, lz4, dz4, e4, rfl, rfl, by omega, hX38, hY38, hG038.out, hG138.out, hQ38.bel, by omega, by omega⟩
   ·go_simp
    generalize hA39 : World.alloc _ _ = v39
    obtain ⟨hB39, hY39, hz39⟩ := al_step hA39 nd_S
    clear hA39
    have hQ39 := hQ29.call hB39
    have hX39 := hX29.below hB39
    refine hK.out _ _ (HS.out _ hQ39) (fun hHeld => ?_)
    clear hK K
    try simp only [Act.put, setIfInBounds_toArray, set_cons_zero, set_cons_succ]
    refine wpAnyH_ready (rs := [1]) (by kernel_rfl) (by simp) ?_
    refine .cons rfl (fun K hK => ?_) .nil
    ·go_simp
     go_at_call 79
     refine (HR1.out _ (HV.out.2.trans (hQ39.bel.mono HV.out.2.size))).mono ?_
     rintro e v40 ⟨i3, s3, p3, k3, c3, q3, l3, d3, j3, sz3, pz3, kz3, cz3, qz3, lz3, dz3, e3, rfl, hF40, hB40⟩
     have hQ40 := hQ39.call hB40
     have hz40 : v39.heap.size ≤ v40.heap.size := hB40.size
     have hX40 := hX39.below hB40
     have hY40 := hY39.below hB40
     go_wp2_with fail
     refine hK.out _ _ (HS.out _ hQ40) (fun hHeld => ?_)
     clear hK K
     try simp only [Act.put, setIfInBounds_toArray, set_cons_zero, set_cons_succ]
     refine wpAnyH_ready (rs := [3]) (by kernel_rfl) (by simp) ?_
     refine .cons rfl (fun K hK => ?_) .nil
     ·go_simp
      go_at_call 79
      refine (HR2.out _ (HV.out.2.trans (hQ40.bel.mono HV.out.2.size))).mono ?_
      rintro e v41 ⟨i4, s4, p4, k4, c4, q4, l4, d4, j4, sz4, pz4, kz4, cz4, qz4, lz4, dz4, e4, rfl, hF41, hB41⟩
      have hQ41 := hQ40.call hB41
      have hz41 : v40.heap.size ≤ v41.heap.size := hB41.size
      have hX41 := hX40.below hB41
      have hY41 := hY40.below hB41
      have hG041 := hid (SRep.below hF40.out hB41)
      go_wp2_with fail
      refine hK.out _ _ (HS.out _ hQ41) (fun hHeld => ?_)
      clear hK K
      try simp only [Act.put, setIfInBounds_toArray, set_cons_zero, set_cons_succ]
      refine wpAnyH_ready (rs := [6]) (by kernel_rfl) (by simp) ?_
      refine .cons rfl (fun K hK => ?_) .nil
      ·obtain ⟨g42_0, g42_1, g42_2, g42_3, g42_4, g42_5, g42_6, g42_7, g42_8, g42_9, g42_10, g42_11, g42_12, g42_13, g42_14, g42_15, g42_16, g42_17⟩ := hX41.cells9
       go_simp
       generalize hW42 : World.setCell _ _ _ = v42
       obtain ⟨hQ42, hX42, hY42, hG042, hG142, hz42⟩ := st_X (w := v41) (B := v0.heap.size) hW42 hQ41 hX41 rfl (ne2 (by omega) (by omega)) (by omega) hY41 (by omega) hG041 hF41
       clear hW42
       refine hK.out _ _ (HS.out _ hQ42) (fun hHeld => ?_)
       clear hK K
       try simp only [Act.put, setIfInBounds_toArray, set_cons_zero, set_cons_succ]
       refine wpAnyH_ready (rs := [7]) (by kernel_rfl) (by simp) ?_
       refine .cons rfl (fun K hK => ?_) .nil
       ·obtain ⟨g43_0, g43_1, g43_2, g43_3, g43_4, g43_5, g43_6, g43_7, g43_8, g43_9, g43_10, g43_11, g43_12, g43_13, g43_14, g43_15, g43_16, g43_17⟩ := hY42.cells9
        go_simp
        generalize hW43 : World.setCell _ _ _ = v43
        obtain ⟨hQ43, hY43, hX43, hG043, hG143, hz43⟩ := st_Y (w := v42) (B := v29.heap.size) hW43 hQ42 hY42 rfl (ne2 (by omega) (by omega)) (by omega) hX42 (by omega) hG042 hG142
        clear hW43
        refine hK.out _ _ (HS.out _ hQ43) (fun hHeld => ?_)
        clear hK K
        try simp only [Act.put, setIfInBounds_toArray, set_cons_zero, set_cons_succ]
        refine wpAnyH_done (by kernel_rfl) (NoPanic.normal ?_) _
        go_wp2_with fail
        go_meet
        exact ⟨v0.heap.size, v29.heap.size, i3, s3, p3, k3, c3, q3, l3, d3, j3, sz3, pz3, kz3, cz3, qz3, lz3, dz3, e3, i4, s4, p4, k4, c4, q4, l4, d4, j4, sz4, pz4, kz4, cz4, qz4, lz4, dz4, e4, rfl, rfl, by omega, hX43, hY43, hG043.out, hG143.out, hQ43.bel, by omega, by omega⟩
  ·go_simp
   generalize hA44 : World.alloc _ _ = v44
   obtain ⟨hB44, hY44, hz44⟩ := al_step hA44 nd_S
   clear hA44
   have hQ44 := hQ0.call hB44
   refine hK.out _ _ (HS.out _ hQ44) (fun hHeld => ?_)
   clear hK K
   try simp only [Act.put, setIfInBounds_toArray, set_cons_zero, set_cons_succ]
   refine wpAnyH_ready (rs := [1, 4]) (by kernel_rfl) (by simp) ?_
   refine .cons rfl (fun K hK => ?_) (.cons rfl (fun K hK => ?_) .nil)
   ·go_simp
    go_at_call 79
    refine (HR1.out _ (HV.out.2.trans (hQ44.bel.mono HV.out.2.size))).mono ?_
    rintro e v45 ⟨i3, s3, p3, k3, c3, q3, l3, d3, j3, sz3, pz3, kz3, cz3, qz3, lz3, dz3, e3, rfl, hF45, hB45⟩
    have hQ45 := hQ44.call hB45
    have hz45 : v44.heap.size ≤ v45.heap.size := hB45.size
    have hY45 := hY44.below hB45
    go_wp2_with fail
    refine hK.out _ _ (HS.out _ hQ45) (fun hHeld => ?_)
    clear hK K
    try simp only [Act.put, setIfInBounds_toArray, set_cons_zero, set_cons_succ]
    refine wpAnyH_ready (rs := [3, 4]) (by kernel_rfl) (by simp) ?_
    refine .cons rfl (fun K hK => ?_) (.cons rfl (fun K hK => ?_) .nil)
    ·go_simp
     go_at_call 79
     refine (HR2.out _ (HV.out.2.trans (hQ45.bel.mono HV.out.2.size))).mono ?_
     rintro e v46 ⟨i4, s4, p4, k4, c4, q4, l4, d4, j4, sz4, pz4, kz4, cz4, qz4, lz4, dz4, e4, rfl, hF46, hB46⟩
     have hQ46 := hQ45.call hB46
     have hz46 : v45.heap.size ≤ v46.heap.size := hB46.size
     have hY46 := hY45.below hB46
     have hG046 := hid (SRep.below hF45.out hB46)
     go_wp2_with fail
     refine hK.out _ _ (HS.out _ hQ46) (fun hHeld => ?_)
     clear hK K
     try simp only [Act.put, setIfInBounds_toArray, set_cons_zero, set_cons_succ]
     refine wpAnyH_ready (rs := [4]) (by kernel_rfl) (by simp) ?_
     refine .cons rfl (fun K hK => ?_) .nil
     ·go_simp
      generalize hA47 : World.alloc _ _ = v47
      obtain ⟨hB47, hX47, hz47⟩ := al_step hA47 nd_S
      clear hA47
      have hQ47 := hQ46.call hB47
      have hY47 := hY46.below hB47
      have hG047 := hid (SRep.below hG046.out hB47)
      have hG147 := hid (SRep.below hF46.out hB47)
      refine hK.out _ _ (HS.out _ hQ47) (fun hHeld => ?_)
      clear hK K
      try simp only [Act.put, setIfInBounds_toArray, set_cons_zero, set_cons_succ]
      refine wpAnyH_ready (rs := [6]) (by kernel_rfl) (by simp) ?_
      refine .cons rfl (fun K hK => ?_) .nil
      ·obtain ⟨g48_0, g48_1, g48_2, g48_3, g48_4, g48_5, g48_6, g48_7, g48_8, g48_9, g48_10, g48_11, g48_12, g48_13, g48_14, g48_15, g48_16, g48_17⟩ := hX47.cells9
       go_simp
       generalize hW48 : World.setCell _ _ _ = v48
       obtain ⟨hQ48, hX48, hY48, hG048, hG148, hz48⟩ := st_X (w := v47) (B := v46.heap.size) hW48 hQ47 hX47 rfl (ne2 (by omega) (by omega)) (by omega) hY47 (by omega) hG047 hG147
       clear hW48
       refine hK.out _ _ (HS.out _ hQ48) (fun hHeld => ?_)
       clear hK K
       try simp only [Act.put, setIfInBounds_toArray, set_cons_zero, set_cons_succ]
       refine wpAnyH_ready (rs := [7]) (by kernel_rfl) (by simp) ?_
       refine .cons rfl (fun K hK => ?_) .nil
       ·obtain ⟨g49_0, g49_1, g49_2, g49_3, g49_4, g49_5, g49_6, g49_7, g49_8, g49_9, g49_10, g49_11, g49_12, g49_13, g49_14, g49_15, g49_16, g49_17⟩ := hY48.cells9
        go_simp
        generalize hW49 : World.setCell _ _ _ = v49
        obtain ⟨hQ49, hY49, hX49, hG049, hG149, hz49⟩ := st_Y (w := v48) (B := v0.heap.size) hW49 hQ48 hY48 rfl (ne2 (by omega) (by omega)) (by omega) hX48 (by omega) hG048 hG148
        clear hW49
        refine hK.out _ _ (HS.out _ hQ49) (fun hHeld => ?_)
        clear hK K
        try simp only [Act.put, setIfInBounds_toArray, set_cons_zero, set_cons_succ]
        refine wpAnyH_done (by kernel_rfl) (NoPanic.normal ?_) _
        go_wp2_with fail
        go_meet
        exact ⟨v46.heap.size, v0.heap.size, i3, s3, p3, k3, c3, q3, l3, d3, j3, sz3, pz3, kz3, cz3, qz3, lz3, dz3, e3, i4, s4, p4, k4, c4, q4, l4, d4, j4, sz4, pz4, kz4, cz4, qz4, lz4, dz4, e4, rfl, rfl, by omega, hX49, hY49, hG049.out, hG149.out, hQ49.bel, by omega, by omega⟩
    ·go_simp
     generalize hA50 : World.alloc _ _ = v50
     obtain ⟨hB50, hX50, hz50⟩ := al_step hA50 nd_S
     clear hA50
     have hQ50 := hQ45.call hB50
     have hY50 := hY45.below hB50
     have hG050 := hid (SRep.below hF45.out hB50)
     refine hK.out _ _ (HS.out _ hQ50) (fun hHeld => ?_)
     clear hK K
     try simp only [Act.put, setIfInBounds_toArray, set_cons_zero, set_cons_succ]
     refine wpAnyH_ready (rs := [3]) (by kernel_rfl) (by simp) ?_
     refine .cons rfl (fun K hK => ?_) .nil
     ·go_simp
      go_at_call 79
      refine (HR2.out _ (HV.out.2.trans (hQ50.bel.mono HV.out.2.size))).mono ?_
      rintro e v51 ⟨i4, s4, p4, k4, c4, q4, l4, d4, j4, sz4, pz4, kz4, cz4, qz4, lz4, dz4, e4, rfl, hF51, hB51⟩
      have hQ51 := hQ50.call hB51
      have hz51 : v50.heap.size ≤ v51.heap.size := hB51.size
      have hY51 := hY50.below hB51
      have hX51 := hX50.below hB51
      have hG051 := hid (SRep.below hG050.out hB51)
      go_wp2_with fail
      refine hK.out _ _ (HS.out _ hQ51) (fun hHeld => ?_)
      clear hK K
      try simp only [Act.put, setIfInBounds_toArray, set_cons_zero, set_cons_succ]
      refine wpAnyH_ready (rs := [6]) (by kernel_rfl) (by simp) ?_
      refine .cons rfl (fun K hK => ?_) .nil
      ·obtain ⟨g52_0, g52_1, g52_2, g52_3, g52_4, g52_5, g52_6, g52_7, g52_8, g52_9, g52_10, g52_11, g52_12, g52_13, g52_14, g52_15, g52_16, g52_17⟩ := hX51.cells9
       go_simp
       generalize hW52 : World.setCell _ _ _ = v52
       obtain ⟨hQ52, hX52, hY52, hG052, hG152, hz52⟩ := st_X (w := v51) (B := v45.heap.size) hW52 hQ51 hX51 rfl (ne2 (by omega) (by omega)) (by omega) hY51 (by omega) hG051 hF51
       clear hW52
       refine hK.out _ _ (HS.out _ hQ52) (fun hHeld => ?_)
       clear hK K
       try simp only [Act.put, setIfInBounds_toArray, set_cons_zero, set_cons_succ]
       refine wpAnyH_ready (rs := [7]) (by kernel_rfl) (by simp) ?_
       refine .cons rfl (fun K hK => ?_) .nil
       ·obtain ⟨g53_0, g53_1, g53_2, g53_3, g53_4, g53_5, g53_6, g53_7, g53_8, g53_9, g53_10, g53_11, g53_12, g53_13, g53_14, g53_15, g53_16, g53_17⟩ := hY52.cells9
        go_simp
        generalize hW53 : World.setCell _ _ _ = v53
        obtain ⟨hQ53, hY53, hX53, hG053, hG153, hz53⟩ := st_Y (w := v52) (B := v0.heap.size) hW53 hQ52 hY52 rfl (ne2 (by omega) (by omega)) (by omega) hX52 (by omega) hG052 hG152
        clear hW53
        refine hK.out _ _ (HS.out _ hQ53) (fun hHeld => ?_)
        clear hK K
        try simp only [Act.put, setIfInBounds_toArray, set_cons_zero, set_cons_succ]
        refine wpAnyH_done (by kernel_rfl) (NoPanic.normal ?_) _
        go_wp2_with fail
        go_meet
        exact ⟨v45.heap.size, v0.heap.size, i3, s3, p3, k3, c3, q3, l3, d3, j3, sz3, pz3, kz3, cz3, qz3, lz3, dz3, e3, i4, s4, p4, k4, c4, q4, l4, d4, j4, sz4, pz4, kz4, cz4, qz4, lz4, dz4, e4, rfl, rfl, by omega, hX53, hY53, hG053.out, hG153.out, hQ53.bel, by omega, by omega⟩
   ·go_simp
    generalize hA54 : World.alloc _ _ = v54
    obtain ⟨hB54, hX54, hz54⟩ := al_step hA54 nd_S
    clear hA54
    have hQ54 := hQ44.call hB54
    have hY54 := hY44.below hB54
    refine hK.out _ _ (HS.out _ hQ54) (fun hHeld => ?_)
    clear hK K
    try simp only [Act.put, setIfInBounds_toArray, set_cons_zero, set_cons_succ]
    refine wpAnyH_ready (rs := [1]) (by kernel_rfl) (by simp) ?_
    refine .cons rfl (fun K hK => ?_) .nil
    ·go_simp
     go_at_call 79
     refine (HR1.out _ (HV.out.2.trans (hQ54.bel.mono HV.out.2.size))).mono ?_
     rintro e v55 ⟨i3, s3, p3, k3, c3, q3, l3, d3, j3, sz3, pz3, kz3, cz3, qz3, lz3, dz3, e3, rfl, hF55, hB55⟩
     have hQ55 := hQ54.call hB55
     have hz55 : v54.heap.size ≤ v55.heap.size := hB55.size
     have hY55 := hY54.below hB55
     have hX55 := hX54.below hB55
     go_wp2_with fail
     refine hK.out _ _ (HS.out _ hQ55) (fun hHeld => ?_)
     clear hK K
     try simp only [Act.put, setIfInBounds_toArray, set_cons_zero, set_cons_succ]
     refine wpAnyH_ready (rs := [3]) (by kernel_rfl) (by simp) ?_
     refine .cons rfl (fun K hK => ?_) .nil
     ·go_simp
      go_at_call 79
      refine (HR2.out _ (HV.out.2.trans (hQ55.bel.mono HV.out.2.size))).mono ?_
      rintro e v56 ⟨i4, s4, p4, k4, c4, q4, l4, d4, j4, sz4, pz4, kz4, cz4, qz4, lz4, dz4, e4, rfl, hF56, hB56⟩
      have hQ56 := hQ55.call hB56
      have hz56 : v55.heap.size ≤ v56.heap.size := hB56.size
      have hY56 := hY55.below hB56
      have hX56 := hX55.below hB56
      have hG056 := hid (SRep.below hF55.out hB56)
      go_wp2_with fail
      refine hK.out _ _ (HS.out _ hQ56) (fun hHeld => ?_)
      clear hK K
      try simp only [Act.put, setIfInBounds_toArray, set_cons_zero, set_cons_succ]
      refine wpAnyH_ready (rs := [6]) (by kernel_rfl) (by simp) ?_
      refine .cons rfl (fun K hK => ?_) .nil
      ·obtain ⟨g57_0, g57_1, g57_2, g57_3, g57_4, g57_5, g57_6, g57_7, g57_8, g57_9, g57_10, g57_11, g57_12, g57_13, g57_14, g57_15, g57_16, g57_17⟩ := hX56.cells9
       go_simp
       generalize hW57 : World.setCell _ _ _ = v57
       obtain ⟨hQ57, hX57, hY57, hG057, hG157, hz57⟩ := st_X (w := v56) (B := v44.heap.size) hW57 hQ56 hX56 rfl (ne2 (by omega) (by omega)) (by omega) hY56 (by omega) hG056 hF56
       clear hW57
       refine hK.out _ _ (HS.out _ hQ57) (fun hHeld => ?_)
       clear hK K
       try simp only [Act.put, setIfInBounds_toArray, set_cons_zero, set_cons_succ]
       refine wpAnyH_ready (rs := [7]) (by kernel_rfl) (by simp) ?_
       refine .cons rfl (fun K hK => ?_) .nil
       ·obtain ⟨g58_0, g58_1, g58_2, g58_3, g58_4, g58_5, g58_6, g58_7, g58_8, g58_9, g58_10, g58_11, g58_12, g58_13, g58_14, g58_15, g58_16, g58_17⟩ := hY57.cells9
        go_simp
        generalize hW58 : World.setCell _ _ _ = v58
        obtain ⟨hQ58, hY58, hX58, hG058, hG158, hz58⟩ := st_Y (w := v57) (B := v0.heap.size) hW58 hQ57 hY57 rfl (ne2 (by omega) (by omega)) (by omega) hX57 (by omega) hG057 hG157
        clear hW58
        refine hK.out _ _ (HS.out _ hQ58) (fun hHeld => ?_)
        clear hK K
        try simp only [Act.put, setIfInBounds_toArray, set_cons_zero, set_cons_succ]
        refine wpAnyH_done (by kernel_rfl) (NoPanic.normal ?_) _
        go_wp2_with fail
        go_meet
        exact ⟨v44.heap.size, v0.heap.size, i3, s3, p3, k3, c3, q3, l3, d3, j3, sz3, pz3, kz3, cz3, qz3, lz3, dz3, e3, i4, s4, p4, k4, c4, q4, l4, d4, j4, sz4, pz4, kz4, cz4, qz4, lz4, dz4, e4, rfl, rfl, by omega, hX58, hY58, hG058.out, hG158.out, hQ58.bel, by omega, by omega⟩
 case rest =>
  obtain ⟨X, Y, i3, s3, p3, k3, c3, q3, l3, d3, j3, sz3, pz3, kz3, cz3, qz3, lz3, dz3, e3, i4, s4, p4, k4, c4, q4, l4, d4, j4, sz4, pz4, kz4, cz4, qz4, lz4, dz4, e4, rfl, rfl, hXY, hX, hY, hF1, hF2, hBc, hlX, hlY⟩ := hcut
  have hW := HV.out.2.trans (hBc.mono HV.out.2.size)
  have HB := hid (And.intro hX (And.intro hY (And.intro hF1 (And.intro hF2 (And.intro (HP.out.2.2.below hW) (And.intro (HV.out.1.below hBc) hW))))))
  clear hX hY hF1 hF2 hBc hW HR1 HR2
  obtain ⟨g0, _⟩ := HB.out.2.2.2.2.1.cells1
  obtain ⟨m0, m1, m2, m3, m4, m5, m6, m7, m8, _⟩ := HB.out.1.cells9
  obtain ⟨n0, n1, n2, n3, n4, n5, n6, n7, n8, _⟩ := HB.out.2.1.cells9
  go_wp2_with fail
  refine (HO.out _ i3 s3 p3 k3 c3 q3 l3 d3 j3 sz3 pz3 kz3 cz3 qz3 lz3 dz3 e3 i4 s4 p4 k4 c4 q4 l4 d4 j4 sz4 pz4 kz4 cz4 qz4 lz4 dz4 e4 HB.out.2.2.2.2.2.2 HB.out.2.2.1 HB.out.2.2.2.1).mono ?_
  rintro e wf (⟨hk, s5, p5, k5, c5, q5, l5, d5, sz5, pz5, kz5, cz5, qz5, lz5, dz5, x5, y5, rfl, hG, hBf⟩ | ⟨hk, rfl, hBf⟩)
  ·have HE := hid (And.intro (HB.out.2.2.2.2.2.1.below hBf) (HB.out.2.2.2.2.2.2.trans (hBf.mono HB.out.2.2.2.2.2.2.size)))
   clear hBf g0 m0 m1 m2 m3 m4 m5 m6 m7 m8 n0 n1 n2 n3 n4 n5 n6 n7 n8
   obtain ⟨h0, h1, h2, h3, h4, h5, h6, h7, i0, i1, i2, i3, i4, i5, i6, i7⟩ := HE.out.1.cells8
   go_wp2_with fail
   exact askBothI1_ret rfl (HE.out.1.stores [.bool s5, .slice p5 k5 c5, .slice q5 l5 d5, .bool sz5, .slice pz5 kz5 cz5, .slice qz5 lz5 dz5, .bool x5, .bool y5] rfl nd8) (.inl ⟨hk, s5, p5, k5, c5, q5, l5, d5, sz5, pz5, kz5, cz5, qz5, lz5, dz5, x5, y5, rfl, hid (GRep.stores (k := 0) (l := [.bool s5, .slice p5 k5 c5, .slice q5 l5 d5, .bool sz5, .slice pz5 kz5 cz5, .slice qz5 lz5 dz5, .bool x5, .bool y5]) hG.out HE.out.1 nd8), Below.stores (k := 0) (l := [.bool s5, .slice p5 k5 c5, .slice q5 l5 d5, .bool sz5, .slice pz5 kz5 cz5, .slice qz5 lz5 dz5, .bool x5, .bool y5]) HE.out.2 (Nat.le_refl _)⟩)
  ·exact ⟨rfl, .inr ⟨hk, rfl, HB.out.2.2.2.2.2.2.trans (hBf.mono HB.out.2.2.2.2.2.2.size)⟩⟩
theorem askBothI1_ok (Ba Bb Bo : Nat) (s1 : Bool) (p1 : Option Addr) (k1 c1 : Nat) (q1 : Option Addr) (l1 d1 : Nat) (sz1 : Bool) (pz1 : Option Addr) (kz1 cz1 : Nat) (qz1 : Option Addr) (lz1 dz1 : Nat) (x1 : Bool) (y1 : Bool) (s2 : Bool) (p2 : Option Addr) (k2 c2 : Nat) (q2 : Option Addr) (l2 d2 : Nat) (sz2 : Bool) (pz2 : Option Addr) (kz2 cz2 : Nat) (qz2 : Option Addr) (lz2 dz2 : Nat) (x2 : Bool) (y2 : Bool) (g : FuncId) (cap : Array Value) (a b a' b' : Bool × Nat × Nat) (D : (Bool × Nat × Nat) × (Bool × Nat × Nat) × Bool × Bool) (w : World)
  (hBa : Box w Ba #[.bool s1, .slice p1 k1 c1, .slice q1 l1 d1, .bool sz1, .slice pz1 kz1 cz1, .slice qz1 lz1 dz1, .bool x1, .bool y1]) (hBb : Box w Bb #[.bool s2, .slice p2 k2 c2, .slice q2 l2 d2, .bool sz2, .slice pz2 kz2 cz2, .slice qz2 lz2 dz2, .bool x2, .bool y2]) (hBo : Box w Bo #[.func (.func g) #[] cap])
  (ha : NRep w (.agg #[.bool s1, .slice p1 k1 c1, .slice q1 l1 d1]) a) (hb : NRep w (.agg #[.bool sz1, .slice pz1 kz1 cz1, .slice qz1 lz1 dz1]) b) (ha' : NRep w (.agg #[.bool s2, .slice p2 k2 c2, .slice q2 l2 d2]) a') (hb' : NRep w (.agg #[.bool sz2, .slice pz2 kz2 cz2, .slice qz2 lz2 dz2]) b')
  (h1 : large a.2.1 a.2.2 = false) (h2 : large b.2.1 b.2.2 = false) (h3 : large a'.2.1 a'.2.2 = false) (h4 : large b'.2.1 b'.2.2 = false) (ht : TabOk w)
  (hfn : ∀ args W, (callFunc g args).run Tryz.prog W = .ok (.enter g args) W)
  (hop : ∀ W (i3 : Int) (s3 : Bool) (p3 : Option Addr) (k3 c3 : Nat) (q3 : Option Addr) (l3 d3 : Nat) (j3 : Int) (sz3 : Bool) (pz3 : Option Addr) (kz3 cz3 : Nat) (qz3 : Option Addr) (lz3 dz3 : Nat) (e3 : Bool) (i4 : Int) (s4 : Bool) (p4 : Option Addr) (k4 c4 : Nat) (q4 : Option Addr) (l4 d4 : Nat) (j4 : Int) (sz4 : Bool) (pz4 : Option Addr) (kz4 cz4 : Nat) (qz4 : Option Addr) (lz4 dz4 : Nat) (e4 : Bool), Below w.heap.size w W → SRep W (.agg #[.int .i64 i3, .bool s3, .slice p3 k3 c3, .slice q3 l3 d3, .int .i64 j3, .bool sz3, .slice pz3 kz3 cz3, .slice qz3 lz3 dz3, .bool e3]) (srd (a, b, x1, y1)) → SRep W (.agg #[.int .i64 i4, .bool s4, .slice p4 k4 c4, .slice q4 l4 d4, .int .i64 j4, .bool sz4, .slice pz4 kz4 cz4, .slice qz4 lz4 dz4, .bool e4]) (srd (a', b', x2, y2)) → Calls Tryz.prog g (#[.agg #[.int .i64 i3, .bool s3, .slice p3 k3 c3, .slice q3 l3 d3, .int .i64 j3, .bool sz3, .slice pz3 kz3 cz3, .slice qz3 lz3 dz3, .bool e3], .agg #[.int .i64 i4, .bool s4, .slice p4 k4 c4, .slice q4 l4 d4, .int .i64 j4, .bool sz4, .slice pz4 kz4 cz4, .slice qz4 lz4 dz4, .bool e4]] ++ cap) W fun e w' => ∃ s5 p5 k5 c5 q5 l5 d5 sz5 pz5 kz5 cz5 qz5 lz5 dz5 x5 y5, e = .returned (.agg #[.bool s5, .slice p5 k5 c5, .slice q5 l5 d5, .bool sz5, .slice pz5 kz5 cz5, .slice qz5 lz5 dz5, .bool x5, .bool y5]) ∧ Hid (GRep w' (.agg #[.bool s5, .slice p5 k5 c5, .slice q5 l5 d5, .bool sz5, .slice pz5 kz5 cz5, .slice qz5 lz5 dz5, .bool x5, .bool y5]) D) ∧ Below W.heap.size W w') :
  Calls Tryz.prog 211 #[.pointer (some ⟨Ba, 0, none⟩), .pointer (some ⟨Bb, 0, none⟩), .pointer (some ⟨Bo, 0, none⟩)] w fun e w' => ∃ s5 p5 k5 c5 q5 l5 d5 sz5 pz5 kz5 cz5 qz5 lz5 dz5 x5 y5, e = .returned (.agg #[.bool s5, .slice p5 k5 c5, .slice q5 l5 d5, .bool sz5, .slice pz5 kz5 cz5, .slice qz5 lz5 dz5, .bool x5, .bool y5]) ∧ Hid (GRep w' (.agg #[.bool s5, .slice p5 k5 c5, .slice q5 l5 d5, .bool sz5, .slice pz5 kz5 cz5, .slice qz5 lz5 dz5, .bool x5, .bool y5]) D) ∧ Below w.heap.size w w' := by
 refine (askBothI1_gen true 0 Ba Bb Bo s1 p1 k1 c1 q1 l1 d1 sz1 pz1 kz1 cz1 qz1 lz1 dz1 x1 y1 s2 p2 k2 c2 q2 l2 d2 sz2 pz2 kz2 cz2 qz2 lz2 dz2 x2 y2 g cap a b a' b' D w hBa hBb hBo ha hb ha' hb' h1 h2 h3 h4 ht hfn fun W i3 s3 p3 k3 c3 q3 l3 d3 j3 sz3 pz3 kz3 cz3 qz3 lz3 dz3 e3 i4 s4 p4 k4 c4 q4 l4 d4 j4 sz4 pz4 kz4 cz4 qz4 lz4 dz4 e4 hW hS hT => (hop W i3 s3 p3 k3 c3 q3 l3 d3 j3 sz3 pz3 kz3 cz3 qz3 lz3 dz3 e3 i4 s4 p4 k4 c4 q4 l4 d4 j4 sz4 pz4 kz4 cz4 qz4 lz4 dz4 e4 hW hS hT).mono fun e w' h => .inl ⟨rfl, h⟩).mono ?_
 rintro e w' (⟨_, h⟩ | ⟨h, _⟩)
 ·exact h
 ·exact absurd h (by decide)
end Go.Proofs.YtheojajaefjecaaGreatDoor
