/- Sets of the reference: Same. -/
import Derived.Test.YtheojajaefjecaaGreatDoorCan3
import Derived.Test.YtheojajaefjecaaGreatDoorRefZ
namespace Go.Proofs.YtheojajaefjecaaGreatDoor
open Go.RowKit Dg
open List (setIfInBounds_toArray set_cons_zero set_cons_succ)
def JCmp (r : (Bool × Nat × Nat) × (Bool × Nat × Nat) × Bool × Bool × Bool) : Prop := (QOk r.1 ∨ r.1 = (false, 0, 0)) ∧ (QOk r.2.1 ∨ r.2.1 = (false, 0, 0))
theorem cmp_same (t : Bool × Nat × Nat) : fcmp t t = 0 := by unfold fcmp cmpI; simp
theorem rCmp_self (v1 v2 : Value) (x : Bool × Nat × Nat) (w : World) (q1 : QNorm w v1 x) (q2 : QNorm w v2 x) (hx : QOk x ∨ x = (false, 0, 0)) :
  Calls Tryz.prog 119 #[v1, v2] w fun e w' => e = .returned (.int .i64 0) ∧ Below w.heap.size w w' := by
 rcases hx with hx | hx
 ·have h := rcmp_ok v1 v2 x x w q1 q2 hx hx
  rw [cmp_same] at h
  exact h
 ·rw [hx] at q1 q2
  exact rCmp_zero v1 v2 w q1 q2
def CutJT (W0 : World) (r t : (Bool × Nat × Nat) × (Bool × Nat × Nat) × Bool × Bool × Bool) (v3 v4 : Value) (wx : World) : Prop :=
 ∃ X Y s3 p3 k3 c3 q3 l3 d3 sz3 pz3 kz3 cz3 qz3 lz3 dz3 x3 y3 e3 s4 p4 k4 c4 q4 l4 d4 sz4 pz4 kz4 cz4 qz4 lz4 dz4 x4 y4 e4, v3 = .pointer (some ⟨X, 0, none⟩) ∧ v4 = .pointer (some ⟨Y, 0, none⟩) ∧ X ≠ Y ∧ Box wx X #[.bool s3, .slice p3 k3 c3, .slice q3 l3 d3, .bool sz3, .slice pz3 kz3 cz3, .slice qz3 lz3 dz3, .bool x3, .bool y3, .bool e3] ∧ Box wx Y #[.bool s4, .slice p4 k4 c4, .slice q4 l4 d4, .bool sz4, .slice pz4 kz4 cz4, .slice qz4 lz4 dz4, .bool x4, .bool y4, .bool e4] ∧ JRep wx (.agg #[.bool s3, .slice p3 k3 c3, .slice q3 l3 d3, .bool sz3, .slice pz3 kz3 cz3, .slice qz3 lz3 dz3, .bool x3, .bool y3, .bool e3]) r ∧ JRep wx (.agg #[.bool s4, .slice p4 k4 c4, .slice q4 l4 d4, .bool sz4, .slice pz4 kz4 cz4, .slice qz4 lz4 dz4, .bool x4, .bool y4, .bool e4]) t ∧ Below W0.heap.size W0 wx ∧ W0.heap.size ≤ X ∧ W0.heap.size ≤ Y
def jsm (r t : (Bool × Nat × Nat) × (Bool × Nat × Nat) × Bool × Bool × Bool) (c d : Int) : Bool := if r.2.2.2.2 || t.2.2.2.2 then r.2.2.2.2 && t.2.2.2.2 else (r.2.2.1 == t.2.2.1 && (r.2.2.2.1 == t.2.2.2.1 && (decide (c = 0) && decide (d = 0))))
set_option maxHeartbeats 8000000 in
set_option maxRecDepth 100000 in
theorem jSame_gen (s1 : Bool) (p1 : Option Addr) (k1 c1 : Nat) (q1 : Option Addr) (l1 d1 : Nat) (sz1 : Bool) (pz1 : Option Addr) (kz1 cz1 : Nat) (qz1 : Option Addr) (lz1 dz1 : Nat) (x1 : Bool) (y1 : Bool) (s2 : Bool) (p2 : Option Addr) (k2 c2 : Nat) (q2 : Option Addr) (l2 d2 : Nat) (sz2 : Bool) (pz2 : Option Addr) (kz2 cz2 : Nat) (qz2 : Option Addr) (lz2 dz2 : Nat) (x2 : Bool) (y2 : Bool) (r t : (Bool × Nat × Nat) × (Bool × Nat × Nat) × Bool × Bool × Bool) (c d : Int) (w : World)
  (hc : r.2.2.1 = t.2.2.1 → r.2.2.2.2 = false → t.2.2.2.2 = false → ∀ W (s3 : Bool) (p3 : Option Addr) (k3 c3 : Nat) (q3 : Option Addr) (l3 d3 : Nat) (s4 : Bool) (p4 : Option Addr) (k4 c4 : Nat) (q4 : Option Addr) (l4 d4 : Nat), QNorm W (.agg #[.bool s3, .slice p3 k3 c3, .slice q3 l3 d3]) r.1 → QNorm W (.agg #[.bool s4, .slice p4 k4 c4, .slice q4 l4 d4]) t.1 → Calls Tryz.prog 119 #[.agg #[.bool s3, .slice p3 k3 c3, .slice q3 l3 d3], .agg #[.bool s4, .slice p4 k4 c4, .slice q4 l4 d4]] W fun e w' => e = .returned (.int .i64 c) ∧ Below W.heap.size W w')
  (hd : r.2.2.2.1 = t.2.2.2.1 → r.2.2.2.2 = false → t.2.2.2.2 = false → ∀ W (s3 : Bool) (p3 : Option Addr) (k3 c3 : Nat) (q3 : Option Addr) (l3 d3 : Nat) (s4 : Bool) (p4 : Option Addr) (k4 c4 : Nat) (q4 : Option Addr) (l4 d4 : Nat), QNorm W (.agg #[.bool s3, .slice p3 k3 c3, .slice q3 l3 d3]) r.2.1 → QNorm W (.agg #[.bool s4, .slice p4 k4 c4, .slice q4 l4 d4]) t.2.1 → Calls Tryz.prog 119 #[.agg #[.bool s3, .slice p3 k3 c3, .slice q3 l3 d3], .agg #[.bool s4, .slice p4 k4 c4, .slice q4 l4 d4]] W fun e w' => e = .returned (.int .i64 d) ∧ Below W.heap.size W w')
  (h1 : ∀ W, Below w.heap.size w W → Calls Tryz.prog 90 #[.agg #[.bool s1, .slice p1 k1 c1, .slice q1 l1 d1, .bool sz1, .slice pz1 kz1 cz1, .slice qz1 lz1 dz1, .bool x1, .bool y1]] W fun e w' => ∃ s3 p3 k3 c3 q3 l3 d3 sz3 pz3 kz3 cz3 qz3 lz3 dz3 x3 y3 e3, e = .returned (.agg #[.bool s3, .slice p3 k3 c3, .slice q3 l3 d3, .bool sz3, .slice pz3 kz3 cz3, .slice qz3 lz3 dz3, .bool x3, .bool y3, .bool e3]) ∧ Hid (JRep w' (.agg #[.bool s3, .slice p3 k3 c3, .slice q3 l3 d3, .bool sz3, .slice pz3 kz3 cz3, .slice qz3 lz3 dz3, .bool x3, .bool y3, .bool e3]) r) ∧ Below W.heap.size W w')
  (h2 : ∀ W, Below w.heap.size w W → Calls Tryz.prog 90 #[.agg #[.bool s2, .slice p2 k2 c2, .slice q2 l2 d2, .bool sz2, .slice pz2 kz2 cz2, .slice qz2 lz2 dz2, .bool x2, .bool y2]] W fun e w' => ∃ s3 p3 k3 c3 q3 l3 d3 sz3 pz3 kz3 cz3 qz3 lz3 dz3 x3 y3 e3, e = .returned (.agg #[.bool s3, .slice p3 k3 c3, .slice q3 l3 d3, .bool sz3, .slice pz3 kz3 cz3, .slice qz3 lz3 dz3, .bool x3, .bool y3, .bool e3]) ∧ Hid (JRep w' (.agg #[.bool s3, .slice p3 k3 c3, .slice q3 l3 d3, .bool sz3, .slice pz3 kz3 cz3, .slice qz3 lz3 dz3, .bool x3, .bool y3, .bool e3]) t) ∧ Below W.heap.size W w') :
  Calls Tryz.prog 56 #[.agg #[.bool s1, .slice p1 k1 c1, .slice q1 l1 d1, .bool sz1, .slice pz1 kz1 cz1, .slice qz1 lz1 dz1, .bool x1, .bool y1], .agg #[.bool s2, .slice p2 k2 c2, .slice q2 l2 d2, .bool sz2, .slice pz2 kz2 cz2, .slice qz2 lz2 dz2, .bool x2, .bool y2]] w fun e w' => e = .returned (.bool (jsm r t c d)) ∧ Below w.heap.size w w' := by
 have HR1 := hid h1
 have HR2 := hid h2
 have HC := hid hc
 have HD := hid hd
 clear h1 h2 hc hd
 obtain ⟨z, hz⟩ : ∃ z, z = jsm r t c d := ⟨_, rfl⟩
 rw [← hz]
 have HZ := hid hz
 clear hz
 go_enter Tryz.func56, Tryz.ntmps56
 go_upto_region 1 with fail
 generalize hA : World.alloc _ _ = W0
 have HV := hid (pre2_o hA nd8 nd8)
 clear hA
 have hz0 : w.heap.size + 1 < W0.heap.size := HV.out.2.1.lt
 go_cut [5, 6] from 7 to 11 (fun v3 v4 wx => CutJT W0 r t v3 v4 wx)
 case first =>
  have HS := hid (fun (w' : World) (hb : QQ W0 [(w.heap.size, [.bool s1, .slice p1 k1 c1, .slice q1 l1 d1, .bool sz1, .slice pz1 kz1 cz1, .slice qz1 lz1 dz1, .bool x1, .bool y1]), (w.heap.size + 1, [.bool s2, .slice p2 k2 c2, .slice q2 l2 d2, .bool sz2, .slice pz2 kz2 cz2, .slice qz2 lz2 dz2, .bool x2, .bool y2])] w') => hb.s_8_8)
  have HQ := hid (QQ.i2 (cs := [.bool s1, .slice p1 k1 c1, .slice q1 l1 d1, .bool sz1, .slice pz1 kz1 cz1, .slice qz1 lz1 dz1, .bool x1, .bool y1]) (cs' := [.bool s2, .slice p2 k2 c2, .slice q2 l2 d2, .bool sz2, .slice pz2 kz2 cz2, .slice qz2 lz2 dz2, .bool x2, .bool y2]) HV.out.1 HV.out.2.1 (Below.refl W0.heap.size W0))
  refine wp_region_noPanic ?_
  refine wp_region_held_drew (S := (fun w' => w'.cell? ⟨w.heap.size, 0, none⟩ = some (.bool s1) ∧ w'.cell? ⟨w.heap.size, 1, none⟩ = some (.slice p1 k1 c1) ∧ w'.cell? ⟨w.heap.size, 2, none⟩ = some (.slice q1 l1 d1) ∧ w'.cell? ⟨w.heap.size, 3, none⟩ = some (.bool sz1) ∧ w'.cell? ⟨w.heap.size, 4, none⟩ = some (.slice pz1 kz1 cz1) ∧ w'.cell? ⟨w.heap.size, 5, none⟩ = some (.slice qz1 lz1 dz1) ∧ w'.cell? ⟨w.heap.size, 6, none⟩ = some (.bool x1) ∧ w'.cell? ⟨w.heap.size, 7, none⟩ = some (.bool y1) ∧ w'.cell? ⟨w.heap.size + 1, 0, none⟩ = some (.bool s2) ∧ w'.cell? ⟨w.heap.size + 1, 1, none⟩ = some (.slice p2 k2 c2) ∧ w'.cell? ⟨w.heap.size + 1, 2, none⟩ = some (.slice q2 l2 d2) ∧ w'.cell? ⟨w.heap.size + 1, 3, none⟩ = some (.bool sz2) ∧ w'.cell? ⟨w.heap.size + 1, 4, none⟩ = some (.slice pz2 kz2 cz2) ∧ w'.cell? ⟨w.heap.size + 1, 5, none⟩ = some (.slice qz2 lz2 dz2) ∧ w'.cell? ⟨w.heap.size + 1, 6, none⟩ = some (.bool x2) ∧ w'.cell? ⟨w.heap.size + 1, 7, none⟩ = some (.bool y2) ∧ Hid (QQ W0 [(w.heap.size, [.bool s1, .slice p1 k1 c1, .slice q1 l1 d1, .bool sz1, .slice pz1 kz1 cz1, .slice qz1 lz1 dz1, .bool x1, .bool y1]), (w.heap.size + 1, [.bool s2, .slice p2 k2 c2, .slice q2 l2 d2, .bool sz2, .slice pz2 kz2 cz2, .slice qz2 lz2 dz2, .bool x2, .bool y2])] w'))) (by kernel_rfl) (HS.out _ HQ.out.drew) (fun hHeld => ?_)
  refine wpAnyH_take (i := 0) (v := ?vv0) rfl (by kernel_rfl) (by kernel_rfl) (by kernel_rfl) (fun _ _ _ h => h) (Or.inl ⟨by rfl, ?hy0⟩) (by assumption) ?_
  case hy0 => (intro w' hSw; (try dsimp only at hSw); go_simp; first | done | with_reducible rfl)
  simp only [Act.put]
  refine wpAnyH_take (i := 2) (v := ?vv2) rfl (by kernel_rfl) (by kernel_rfl) (by kernel_rfl) (fun _ _ _ h => h) (Or.inl ⟨by rfl, ?hy2⟩) (by assumption) ?_
  case hy2 => (intro w' hSw; (try dsimp only at hSw); go_simp; first | done | with_reducible rfl)
  simp only [Act.put]
  have hQ0 := HQ.out.drew; have hz : W0.heap.size ≤ W0.drew.heap.size := Nat.le_refl _; generalize W0.drew = v0 at *
  refine wpAnyH_ready (rs := [1, 4, 5]) (by kernel_rfl) (by simp) ?_
  refine .cons rfl (fun K hK => ?_) (.cons rfl (fun K hK => ?_) (.cons rfl (fun K hK => ?_) .nil))
  ·go_simp
   go_at_call 90
   refine (HR1.out _ (HV.out.2.2.trans (hQ0.bel.mono HV.out.2.2.size))).mono ?_
   rintro e v1 ⟨s3, p3, k3, c3, q3, l3, d3, sz3, pz3, kz3, cz3, qz3, lz3, dz3, x3, y3, e3, rfl, hF1, hB1⟩
   have hQ1 := hQ0.call hB1
   have hz1 : v0.heap.size ≤ v1.heap.size := hB1.size
   go_wp2_with fail
   refine hK.out _ _ (HS.out _ hQ1) (fun hHeld => ?_)
   clear hK K
   try simp only [Act.put, setIfInBounds_toArray, set_cons_zero, set_cons_succ]
   refine wpAnyH_ready (rs := [3, 4, 5]) (by kernel_rfl) (by simp) ?_
   refine .cons rfl (fun K hK => ?_) (.cons rfl (fun K hK => ?_) (.cons rfl (fun K hK => ?_) .nil))
   ·go_simp
    go_at_call 90
    refine (HR2.out _ (HV.out.2.2.trans (hQ1.bel.mono HV.out.2.2.size))).mono ?_
    rintro e v2 ⟨s4, p4, k4, c4, q4, l4, d4, sz4, pz4, kz4, cz4, qz4, lz4, dz4, x4, y4, e4, rfl, hF2, hB2⟩
    have hQ2 := hQ1.call hB2
    have hz2 : v1.heap.size ≤ v2.heap.size := hB2.size
    have hG02 := hid (JRep.below hF1.out hB2)
    go_wp2_with fail
    refine hK.out _ _ (HS.out _ hQ2) (fun hHeld => ?_)
    clear hK K
    try simp only [Act.put, setIfInBounds_toArray, set_cons_zero, set_cons_succ]
    refine wpAnyH_ready (rs := [4, 5]) (by kernel_rfl) (by simp) ?_
    refine .cons rfl (fun K hK => ?_) (.cons rfl (fun K hK => ?_) .nil)
    ·go_simp
     generalize hA3 : World.alloc _ _ = v3
     obtain ⟨hB3, hX3, hz3⟩ := al_step hA3 nd_J
     clear hA3
     have hQ3 := hQ2.call hB3
     have hG03 := hid (JRep.below hG02.out hB3)
     have hG13 := hid (JRep.below hF2.out hB3)
     refine hK.out _ _ (HS.out _ hQ3) (fun hHeld => ?_)
     clear hK K
     try simp only [Act.put, setIfInBounds_toArray, set_cons_zero, set_cons_succ]
     refine wpAnyH_ready (rs := [5]) (by kernel_rfl) (by simp) ?_
     refine .cons rfl (fun K hK => ?_) .nil
     ·go_simp
      generalize hA4 : World.alloc _ _ = v4
      obtain ⟨hB4, hY4, hz4⟩ := al_step hA4 nd_J
      clear hA4
      have hQ4 := hQ3.call hB4
      have hX4 := hX3.below hB4
      have hG04 := hid (JRep.below hG03.out hB4)
      have hG14 := hid (JRep.below hG13.out hB4)
      refine hK.out _ _ (HS.out _ hQ4) (fun hHeld => ?_)
      clear hK K
      try simp only [Act.put, setIfInBounds_toArray, set_cons_zero, set_cons_succ]
      refine wpAnyH_ready (rs := [6]) (by kernel_rfl) (by simp) ?_
      refine .cons rfl (fun K hK => ?_) .nil
      ·obtain ⟨g5_0, g5_1, g5_2, g5_3, g5_4, g5_5, g5_6, g5_7, g5_8, g5_9, g5_10, g5_11, g5_12, g5_13, g5_14, g5_15, g5_16, g5_17⟩ := hX4.cells9
       go_simp
       generalize hW5 : World.setCell _ _ _ = v5
       obtain ⟨hQ5, hX5, hY5, hG05, hG15, hz5⟩ := st_step (R := JRep) (fun _ _ _ _ _ _ _ => JRep.stores) (w := v4) (B := v2.heap.size) (vs := [.bool s3, .slice p3 k3 c3, .slice q3 l3 d3, .bool sz3, .slice pz3 kz3 cz3, .slice qz3 lz3 dz3, .bool x3, .bool y3, .bool e3]) hW5 hQ4 hX4 rfl nd_J (ne2 (by omega) (by omega)) (by omega) hY4 (by omega) hG04 hG14
       clear hW5
       refine hK.out _ _ (HS.out _ hQ5) (fun hHeld => ?_)
       clear hK K
       try simp only [Act.put, setIfInBounds_toArray, set_cons_zero, set_cons_succ]
       refine wpAnyH_ready (rs := [7]) (by kernel_rfl) (by simp) ?_
       refine .cons rfl (fun K hK => ?_) .nil
       ·obtain ⟨g6_0, g6_1, g6_2, g6_3, g6_4, g6_5, g6_6, g6_7, g6_8, g6_9, g6_10, g6_11, g6_12, g6_13, g6_14, g6_15, g6_16, g6_17⟩ := hY5.cells9
        go_simp
        generalize hW6 : World.setCell _ _ _ = v6
        obtain ⟨hQ6, hY6, hX6, hG06, hG16, hz6⟩ := st_step (R := JRep) (fun _ _ _ _ _ _ _ => JRep.stores) (w := v5) (B := v3.heap.size) (vs := [.bool s4, .slice p4 k4 c4, .slice q4 l4 d4, .bool sz4, .slice pz4 kz4 cz4, .slice qz4 lz4 dz4, .bool x4, .bool y4, .bool e4]) hW6 hQ5 hY5 rfl nd_J (ne2 (by omega) (by omega)) (by omega) hX5 (by omega) hG05 hG15
        clear hW6
        refine hK.out _ _ (HS.out _ hQ6) (fun hHeld => ?_)
        clear hK K
        try simp only [Act.put, setIfInBounds_toArray, set_cons_zero, set_cons_succ]
        refine wpAnyH_done (by kernel_rfl) (NoPanic.normal ?_) _
        go_wp2_with fail
        go_meet
        exact ⟨v2.heap.size, v3.heap.size, s3, p3, k3, c3, q3, l3, d3, sz3, pz3, kz3, cz3, qz3, lz3, dz3, x3, y3, e3, s4, p4, k4, c4, q4, l4, d4, sz4, pz4, kz4, cz4, qz4, lz4, dz4, x4, y4, e4, rfl, rfl, by omega, hX6, hY6, hG06.out, hG16.out, hQ6.bel, by omega, by omega⟩
    ·go_simp
     generalize hA7 : World.alloc _ _ = v7
     obtain ⟨hB7, hY7, hz7⟩ := al_step hA7 nd_J
     clear hA7
     have hQ7 := hQ2.call hB7
     have hG07 := hid (JRep.below hG02.out hB7)
     have hG17 := hid (JRep.below hF2.out hB7)
     refine hK.out _ _ (HS.out _ hQ7) (fun hHeld => ?_)
     clear hK K
     try simp only [Act.put, setIfInBounds_toArray, set_cons_zero, set_cons_succ]
     refine wpAnyH_ready (rs := [4]) (by kernel_rfl) (by simp) ?_
     refine .cons rfl (fun K hK => ?_) .nil
     ·go_simp
      generalize hA8 : World.alloc _ _ = v8
      obtain ⟨hB8, hX8, hz8⟩ := al_step hA8 nd_J
      clear hA8
      have hQ8 := hQ7.call hB8
      have hY8 := hY7.below hB8
      have hG08 := hid (JRep.below hG07.out hB8)
      have hG18 := hid (JRep.below hG17.out hB8)
      refine hK.out _ _ (HS.out _ hQ8) (fun hHeld => ?_)
      clear hK K
      try simp only [Act.put, setIfInBounds_toArray, set_cons_zero, set_cons_succ]
      refine wpAnyH_ready (rs := [6]) (by kernel_rfl) (by simp) ?_
      refine .cons rfl (fun K hK => ?_) .nil
      ·obtain ⟨g9_0, g9_1, g9_2, g9_3, g9_4, g9_5, g9_6, g9_7, g9_8, g9_9, g9_10, g9_11, g9_12, g9_13, g9_14, g9_15, g9_16, g9_17⟩ := hX8.cells9
       go_simp
       generalize hW9 : World.setCell _ _ _ = v9
       obtain ⟨hQ9, hX9, hY9, hG09, hG19, hz9⟩ := st_step (R := JRep) (fun _ _ _ _ _ _ _ => JRep.stores) (w := v8) (B := v7.heap.size) (vs := [.bool s3, .slice p3 k3 c3, .slice q3 l3 d3, .bool sz3, .slice pz3 kz3 cz3, .slice qz3 lz3 dz3, .bool x3, .bool y3, .bool e3]) hW9 hQ8 hX8 rfl nd_J (ne2 (by omega) (by omega)) (by omega) hY8 (by omega) hG08 hG18
       clear hW9
       refine hK.out _ _ (HS.out _ hQ9) (fun hHeld => ?_)
       clear hK K
       try simp only [Act.put, setIfInBounds_toArray, set_cons_zero, set_cons_succ]
       refine wpAnyH_ready (rs := [7]) (by kernel_rfl) (by simp) ?_
       refine .cons rfl (fun K hK => ?_) .nil
       ·obtain ⟨g10_0, g10_1, g10_2, g10_3, g10_4, g10_5, g10_6, g10_7, g10_8, g10_9, g10_10, g10_11, g10_12, g10_13, g10_14, g10_15, g10_16, g10_17⟩ := hY9.cells9
        go_simp
        generalize hW10 : World.setCell _ _ _ = v10
        obtain ⟨hQ10, hY10, hX10, hG010, hG110, hz10⟩ := st_step (R := JRep) (fun _ _ _ _ _ _ _ => JRep.stores) (w := v9) (B := v2.heap.size) (vs := [.bool s4, .slice p4 k4 c4, .slice q4 l4 d4, .bool sz4, .slice pz4 kz4 cz4, .slice qz4 lz4 dz4, .bool x4, .bool y4, .bool e4]) hW10 hQ9 hY9 rfl nd_J (ne2 (by omega) (by omega)) (by omega) hX9 (by omega) hG09 hG19
        clear hW10
        refine hK.out _ _ (HS.out _ hQ10) (fun hHeld => ?_)
        clear hK K
        try simp only [Act.put, setIfInBounds_toArray, set_cons_zero, set_cons_succ]
        refine wpAnyH_done (by kernel_rfl) (NoPanic.normal ?_) _
        go_wp2_with fail
        go_meet
        exact ⟨v7.heap.size, v2.heap.size, s3, p3, k3, c3, q3, l3, d3, sz3, pz3, kz3, cz3, qz3, lz3, dz3, x3, y3, e3, s4, p4, k4, c4, q4, l4, d4, sz4, pz4, kz4, cz4, qz4, lz4, dz4, x4, y4, e4, rfl, rfl, by omega, hX10, hY10, hG010.out, hG110.out, hQ10.bel, by omega, by omega⟩
   ·go_simp
    generalize hA11 : World.alloc _ _ = v11
    obtain ⟨hB11, hX11, hz11⟩ := al_step hA11 nd_J
    clear hA11
    have hQ11 := hQ1.call hB11
    have hG011 := hid (JRep.below hF1.out hB11)
    refine hK.out _ _ (HS.out _ hQ11) (fun hHeld => ?_)
    clear hK K
    try simp only [Act.put, setIfInBounds_toArray, set_cons_zero, set_cons_succ]
    refine wpAnyH_ready (rs := [3, 5]) (by kernel_rfl) (by simp) ?_
    refine .cons rfl (fun K hK => ?_) (.cons rfl (fun K hK => ?_) .nil)
    ·go_simp
     go_at_call 90
     refine (HR2.out _ (HV.out.2.2.trans (hQ11.bel.mono HV.out.2.2.size))).mono ?_
     rintro e v12 ⟨s4, p4, k4, c4, q4, l4, d4, sz4, pz4, kz4, cz4, qz4, lz4, dz4, x4, y4, e4, rfl, hF12, hB12⟩
     have hQ12 := hQ11.call hB12
     have hz12 : v11.heap.size ≤ v12.heap.size := hB12.size
     have hX12 := hX11.below hB12
     have hG012 := hid (JRep.below hG011.out hB12)
     go_wp2_with fail
     refine hK.out _ _ (HS.out _ hQ12) (fun hHeld => ?_)
     clear hK K
     try simp only [Act.put, setIfInBounds_toArray, set_cons_zero, set_cons_succ]
     refine wpAnyH_ready (rs := [5]) (by kernel_rfl) (by simp) ?_
     refine .cons rfl (fun K hK => ?_) .nil
     ·go_simp
      generalize hA13 : World.alloc _ _ = v13
      obtain ⟨hB13, hY13, hz13⟩ := al_step hA13 nd_J
      clear hA13
      have hQ13 := hQ12.call hB13
      have hX13 := hX12.below hB13
      have hG013 := hid (JRep.below hG012.out hB13)
      have hG113 := hid (JRep.below hF12.out hB13)
      refine hK.out _ _ (HS.out _ hQ13) (fun hHeld => ?_)
      clear hK K
      try simp only [Act.put, setIfInBounds_toArray, set_cons_zero, set_cons_succ]
      refine wpAnyH_ready (rs := [6]) (by kernel_rfl) (by simp) ?_
      refine .cons rfl (fun K hK => ?_) .nil
      ·obtain ⟨g14_0, g14_1, g14_2, g14_3, g14_4, g14_5, g14_6, g14_7, g14_8, g14_9, g14_10, g14_11, g14_12, g14_13, g14_14, g14_15, g14_16, g14_17⟩ := hX13.cells9
       go_simp
       generalize hW14 : World.setCell _ _ _ = v14
       obtain ⟨hQ14, hX14, hY14, hG014, hG114, hz14⟩ := st_step (R := JRep) (fun _ _ _ _ _ _ _ => JRep.stores) (w := v13) (B := v1.heap.size) (vs := [.bool s3, .slice p3 k3 c3, .slice q3 l3 d3, .bool sz3, .slice pz3 kz3 cz3, .slice qz3 lz3 dz3, .bool x3, .bool y3, .bool e3]) hW14 hQ13 hX13 rfl nd_J (ne2 (by omega) (by omega)) (by omega) hY13 (by omega) hG013 hG113
       clear hW14
       refine hK.out _ _ (HS.out _ hQ14) (fun hHeld => ?_)
       clear hK K
       try simp only [Act.put, setIfInBounds_toArray, set_cons_zero, set_cons_succ]
       refine wpAnyH_ready (rs := [7]) (by kernel_rfl) (by simp) ?_
       refine .cons rfl (fun K hK => ?_) .nil
       ·obtain ⟨g15_0, g15_1, g15_2, g15_3, g15_4, g15_5, g15_6, g15_7, g15_8, g15_9, g15_10, g15_11, g15_12, g15_13, g15_14, g15_15, g15_16, g15_17⟩ := hY14.cells9
        go_simp
        generalize hW15 : World.setCell _ _ _ = v15
        obtain ⟨hQ15, hY15, hX15, hG015, hG115, hz15⟩ := st_step (R := JRep) (fun _ _ _ _ _ _ _ => JRep.stores) (w := v14) (B := v12.heap.size) (vs := [.bool s4, .slice p4 k4 c4, .slice q4 l4 d4, .bool sz4, .slice pz4 kz4 cz4, .slice qz4 lz4 dz4, .bool x4, .bool y4, .bool e4]) hW15 hQ14 hY14 rfl nd_J (ne2 (by omega) (by omega)) (by omega) hX14 (by omega) hG014 hG114
        clear hW15
        refine hK.out _ _ (HS.out _ hQ15) (fun hHeld => ?_)
        clear hK K
        try simp only [Act.put, setIfInBounds_toArray, set_cons_zero, set_cons_succ]
        refine wpAnyH_done (by kernel_rfl) (NoPanic.normal ?_) _
        go_wp2_with fail
        go_meet
        exact ⟨v1.heap.size, v12.heap.size, s3, p3, k3, c3, q3, l3, d3, sz3, pz3, kz3, cz3, qz3, lz3, dz3, x3, y3, e3, s4, p4, k4, c4, q4, l4, d4, sz4, pz4, kz4, cz4, qz4, lz4, dz4, x4, y4, e4, rfl, rfl, by omega, hX15, hY15, hG015.out, hG115.out, hQ15.bel, by omega, by omega⟩
    ·go_simp
     generalize hA16 : World.alloc _ _ = v16
     obtain ⟨hB16, hY16, hz16⟩ := al_step hA16 nd_J
     clear hA16
     have hQ16 := hQ11.call hB16
     have hX16 := hX11.below hB16
     have hG016 := hid (JRep.below hG011.out hB16)
     refine hK.out _ _ (HS.out _ hQ16) (fun hHeld => ?_)
     clear hK K
     try simp only [Act.put, setIfInBounds_toArray, set_cons_zero, set_cons_succ]
     refine wpAnyH_ready (rs := [3]) (by kernel_rfl) (by simp) ?_
     refine .cons rfl (fun K hK => ?_) .nil
     ·go_simp
      go_at_call 90
      refine (HR2.out _ (HV.out.2.2.trans (hQ16.bel.mono HV.out.2.2.size))).mono ?_
      rintro e v17 ⟨s4, p4, k4, c4, q4, l4, d4, sz4, pz4, kz4, cz4, qz4, lz4, dz4, x4, y4, e4, rfl, hF17, hB17⟩
      have hQ17 := hQ16.call hB17
      have hz17 : v16.heap.size ≤ v17.heap.size := hB17.size
      have hX17 := hX16.below hB17
      have hY17 := hY16.below hB17
      have hG017 := hid (JRep.below hG016.out hB17)
      go_wp2_with fail
      refine hK.out _ _ (HS.out _ hQ17) (fun hHeld => ?_)
      clear hK K
      try simp only [Act.put, setIfInBounds_toArray, set_cons_zero, set_cons_succ]
      refine wpAnyH_ready (rs := [6]) (by kernel_rfl) (by simp) ?_
      refine .cons rfl (fun K hK => ?_) .nil
      ·obtain ⟨g18_0, g18_1, g18_2, g18_3, g18_4, g18_5, g18_6, g18_7, g18_8, g18_9, g18_10, g18_11, g18_12, g18_13, g18_14, g18_15, g18_16, g18_17⟩ := hX17.cells9
       go_simp
       generalize hW18 : World.setCell _ _ _ = v18
       obtain ⟨hQ18, hX18, hY18, hG018, hG118, hz18⟩ := st_step (R := JRep) (fun _ _ _ _ _ _ _ => JRep.stores) (w := v17) (B := v1.heap.size) (vs := [.bool s3, .slice p3 k3 c3, .slice q3 l3 d3, .bool sz3, .slice pz3 kz3 cz3, .slice qz3 lz3 dz3, .bool x3, .bool y3, .bool e3]) hW18 hQ17 hX17 rfl nd_J (ne2 (by omega) (by omega)) (by omega) hY17 (by omega) hG017 hF17
       clear hW18
       refine hK.out _ _ (HS.out _ hQ18) (fun hHeld => ?_)
       clear hK K
       try simp only [Act.put, setIfInBounds_toArray, set_cons_zero, set_cons_succ]
       refine wpAnyH_ready (rs := [7]) (by kernel_rfl) (by simp) ?_
       refine .cons rfl (fun K hK => ?_) .nil
       ·obtain ⟨g19_0, g19_1, g19_2, g19_3, g19_4, g19_5, g19_6, g19_7, g19_8, g19_9, g19_10, g19_11, g19_12, g19_13, g19_14, g19_15, g19_16, g19_17⟩ := hY18.cells9
        go_simp
        generalize hW19 : World.setCell _ _ _ = v19
        obtain ⟨hQ19, hY19, hX19, hG019, hG119, hz19⟩ := st_step (R := JRep) (fun _ _ _ _ _ _ _ => JRep.stores) (w := v18) (B := v11.heap.size) (vs := [.bool s4, .slice p4 k4 c4, .slice q4 l4 d4, .bool sz4, .slice pz4 kz4 cz4, .slice qz4 lz4 dz4, .bool x4, .bool y4, .bool e4]) hW19 hQ18 hY18 rfl nd_J (ne2 (by omega) (by omega)) (by omega) hX18 (by omega) hG018 hG118
        clear hW19
        refine hK.out _ _ (HS.out _ hQ19) (fun hHeld => ?_)
        clear hK K
        try simp only [Act.put, setIfInBounds_toArray, set_cons_zero, set_cons_succ]
        refine wpAnyH_done (by kernel_rfl) (NoPanic.normal ?_) _
        go_wp2_with fail
        go_meet
        exact ⟨v1.heap.size, v11.heap.size, s3, p3, k3, c3, q3, l3, d3, sz3, pz3, kz3, cz3, qz3, lz3, dz3, x3, y3, e3, s4, p4, k4, c4, q4, l4, d4, sz4, pz4, kz4, cz4, qz4, lz4, dz4, x4, y4, e4, rfl, rfl, by omega, hX19, hY19, hG019.out, hG119.out, hQ19.bel, by omega, by omega⟩
   ·go_simp
    generalize hA20 : World.alloc _ _ = v20
    obtain ⟨hB20, hY20, hz20⟩ := al_step hA20 nd_J
    clear hA20
    have hQ20 := hQ1.call hB20
    have hG020 := hid (JRep.below hF1.out hB20)
    refine hK.out _ _ (HS.out _ hQ20) (fun hHeld => ?_)
    clear hK K
    try simp only [Act.put, setIfInBounds_toArray, set_cons_zero, set_cons_succ]
    refine wpAnyH_ready (rs := [3, 4]) (by kernel_rfl) (by simp) ?_
    refine .cons rfl (fun K hK => ?_) (.cons rfl (fun K hK => ?_) .nil)
    ·go_simp
     go_at_call 90
     refine (HR2.out _ (HV.out.2.2.trans (hQ20.bel.mono HV.out.2.2.size))).mono ?_
     rintro e v21 ⟨s4, p4, k4, c4, q4, l4, d4, sz4, pz4, kz4, cz4, qz4, lz4, dz4, x4, y4, e4, rfl, hF21, hB21⟩
     have hQ21 := hQ20.call hB21
     have hz21 : v20.heap.size ≤ v21.heap.size := hB21.size
     have hY21 := hY20.below hB21
     have hG021 := hid (JRep.below hG020.out hB21)
     go_wp2_with fail
     refine hK.out _ _ (HS.out _ hQ21) (fun hHeld => ?_)
     clear hK K
     try simp only [Act.put, setIfInBounds_toArray, set_cons_zero, set_cons_succ]
     refine wpAnyH_ready (rs := [4]) (by kernel_rfl) (by simp) ?_
     refine .cons rfl (fun K hK => ?_) .nil
     ·go_simp
      generalize hA22 : World.alloc _ _ = v22
      obtain ⟨hB22, hX22, hz22⟩ := al_step hA22 nd_J
      clear hA22
      have hQ22 := hQ21.call hB22
      have hY22 := hY21.below hB22
      have hG022 := hid (JRep.below hG021.out hB22)
      have hG122 := hid (JRep.below hF21.out hB22)
      refine hK.out _ _ (HS.out _ hQ22) (fun hHeld => ?_)
      clear hK K
      try simp only [Act.put, setIfInBounds_toArray, set_cons_zero, set_cons_succ]
      refine wpAnyH_ready (rs := [6]) (by kernel_rfl) (by simp) ?_
      refine .cons rfl (fun K hK => ?_) .nil
      ·obtain ⟨g23_0, g23_1, g23_2, g23_3, g23_4, g23_5, g23_6, g23_7, g23_8, g23_9, g23_10, g23_11, g23_12, g23_13, g23_14, g23_15, g23_16, g23_17⟩ := hX22.cells9
       go_simp
       generalize hW23 : World.setCell _ _ _ = v23
       obtain ⟨hQ23, hX23, hY23, hG023, hG123, hz23⟩ := st_step (R := JRep) (fun _ _ _ _ _ _ _ => JRep.stores) (w := v22) (B := v21.heap.size) (vs := [.bool s3, .slice p3 k3 c3, .slice q3 l3 d3, .bool sz3, .slice pz3 kz3 cz3, .slice qz3 lz3 dz3, .bool x3, .bool y3, .bool e3]) hW23 hQ22 hX22 rfl nd_J (ne2 (by omega) (by omega)) (by omega) hY22 (by omega) hG022 hG122
       clear hW23
       refine hK.out _ _ (HS.out _ hQ23) (fun hHeld => ?_)
       clear hK K
       try simp only [Act.put, setIfInBounds_toArray, set_cons_zero, set_cons_succ]
       refine wpAnyH_ready (rs := [7]) (by kernel_rfl) (by simp) ?_
       refine .cons rfl (fun K hK => ?_) .nil
       ·obtain ⟨g24_0, g24_1, g24_2, g24_3, g24_4, g24_5, g24_6, g24_7, g24_8, g24_9, g24_10, g24_11, g24_12, g24_13, g24_14, g24_15, g24_16, g24_17⟩ := hY23.cells9
        go_simp
        generalize hW24 : World.setCell _ _ _ = v24
        obtain ⟨hQ24, hY24, hX24, hG024, hG124, hz24⟩ := st_step (R := JRep) (fun _ _ _ _ _ _ _ => JRep.stores) (w := v23) (B := v1.heap.size) (vs := [.bool s4, .slice p4 k4 c4, .slice q4 l4 d4, .bool sz4, .slice pz4 kz4 cz4, .slice qz4 lz4 dz4, .bool x4, .bool y4, .bool e4]) hW24 hQ23 hY23 rfl nd_J (ne2 (by omega) (by omega)) (by omega) hX23 (by omega) hG023 hG123
        clear hW24
        refine hK.out _ _ (HS.out _ hQ24) (fun hHeld => ?_)
        clear hK K
        try simp only [Act.put, setIfInBounds_toArray, set_cons_zero, set_cons_succ]
        refine wpAnyH_done (by kernel_rfl) (NoPanic.normal ?_) _
        go_wp2_with fail
        go_meet
        exact ⟨v21.heap.size, v1.heap.size, s3, p3, k3, c3, q3, l3, d3, sz3, pz3, kz3, cz3, qz3, lz3, dz3, x3, y3, e3, s4, p4, k4, c4, q4, l4, d4, sz4, pz4, kz4, cz4, qz4, lz4, dz4, x4, y4, e4, rfl, rfl, by omega, hX24, hY24, hG024.out, hG124.out, hQ24.bel, by omega, by omega⟩
    ·go_simp
     generalize hA25 : World.alloc _ _ = v25
     obtain ⟨hB25, hX25, hz25⟩ := al_step hA25 nd_J
     clear hA25
     have hQ25 := hQ20.call hB25
     have hY25 := hY20.below hB25
     have hG025 := hid (JRep.below hG020.out hB25)
     refine hK.out _ _ (HS.out _ hQ25) (fun hHeld => ?_)
     clear hK K
     try simp only [Act.put, setIfInBounds_toArray, set_cons_zero, set_cons_succ]
     refine wpAnyH_ready (rs := [3]) (by kernel_rfl) (by simp) ?_
     refine .cons rfl (fun K hK => ?_) .nil
     ·go_simp
      go_at_call 90
      refine (HR2.out _ (HV.out.2.2.trans (hQ25.bel.mono HV.out.2.2.size))).mono ?_
      rintro e v26 ⟨s4, p4, k4, c4, q4, l4, d4, sz4, pz4, kz4, cz4, qz4, lz4, dz4, x4, y4, e4, rfl, hF26, hB26⟩
      have hQ26 := hQ25.call hB26
      have hz26 : v25.heap.size ≤ v26.heap.size := hB26.size
      have hY26 := hY25.below hB26
      have hX26 := hX25.below hB26
      have hG026 := hid (JRep.below hG025.out hB26)
      go_wp2_with fail
      refine hK.out _ _ (HS.out _ hQ26) (fun hHeld => ?_)
      clear hK K
      try simp only [Act.put, setIfInBounds_toArray, set_cons_zero, set_cons_succ]
      refine wpAnyH_ready (rs := [6]) (by kernel_rfl) (by simp) ?_
      refine .cons rfl (fun K hK => ?_) .nil
      ·obtain ⟨g27_0, g27_1, g27_2, g27_3, g27_4, g27_5, g27_6, g27_7, g27_8, g27_9, g27_10, g27_11, g27_12, g27_13, g27_14, g27_15, g27_16, g27_17⟩ := hX26.cells9
       go_simp
       generalize hW27 : World.setCell _ _ _ = v27
       obtain ⟨hQ27, hX27, hY27, hG027, hG127, hz27⟩ := st_step (R := JRep) (fun _ _ _ _ _ _ _ => JRep.stores) (w := v26) (B := v20.heap.size) (vs := [.bool s3, .slice p3 k3 c3, .slice q3 l3 d3, .bool sz3, .slice pz3 kz3 cz3, .slice qz3 lz3 dz3, .bool x3, .bool y3, .bool e3]) hW27 hQ26 hX26 rfl nd_J (ne2 (by omega) (by omega)) (by omega) hY26 (by omega) hG026 hF26
       clear hW27
       refine hK.out _ _ (HS.out _ hQ27) (fun hHeld => ?_)
       clear hK K
       try simp only [Act.put, setIfInBounds_toArray, set_cons_zero, set_cons_succ]
       refine wpAnyH_ready (rs := [7]) (by kernel_rfl) (by simp) ?_
       refine .cons rfl (fun K hK => ?_) .nil
       ·obtain ⟨g28_0, g28_1, g28_2, g28_3, g28_4, g28_5, g28_6, g28_7, g28_8, g28_9, g28_10, g28_11, g28_12, g28_13, g28_14, g28_15, g28_16, g28_17⟩ := hY27.cells9
        go_simp
        generalize hW28 : World.setCell _ _ _ = v28
        obtain ⟨hQ28, hY28, hX28, hG028, hG128, hz28⟩ := st_step (R := JRep) (fun _ _ _ _ _ _ _ => JRep.stores) (w := v27) (B := v1.heap.size) (vs := [.bool s4, .slice p4 k4 c4, .slice q4 l4 d4, .bool sz4, .slice pz4 kz4 cz4, .slice qz4 lz4 dz4, .bool x4, .bool y4, .bool e4]) hW28 hQ27 hY27 rfl nd_J (ne2 (by omega) (by omega)) (by omega) hX27 (by omega) hG027 hG127
        clear hW28
        refine hK.out _ _ (HS.out _ hQ28) (fun hHeld => ?_)
        clear hK K
        try simp only [Act.put, setIfInBounds_toArray, set_cons_zero, set_cons_succ]
        refine wpAnyH_done (by kernel_rfl) (NoPanic.normal ?_) _
        go_wp2_with fail
        go_meet
        exact ⟨v20.heap.size, v1.heap.size, s3, p3, k3, c3, q3, l3, d3, sz3, pz3, kz3, cz3, qz3, lz3, dz3, x3, y3, e3, s4, p4, k4, c4, q4, l4, d4, sz4, pz4, kz4, cz4, qz4, lz4, dz4, x4, y4, e4, rfl, rfl, by omega, hX28, hY28, hG028.out, hG128.out, hQ28.bel, by omega, by omega⟩
  ·go_simp
   generalize hA29 : World.alloc _ _ = v29
   obtain ⟨hB29, hX29, hz29⟩ := al_step hA29 nd_J
   clear hA29
   have hQ29 := hQ0.call hB29
   refine hK.out _ _ (HS.out _ hQ29) (fun hHeld => ?_)
   clear hK K
   try simp only [Act.put, setIfInBounds_toArray, set_cons_zero, set_cons_succ]
   refine wpAnyH_ready (rs := [1, 5]) (by kernel_rfl) (by simp) ?_
   refine .cons rfl (fun K hK => ?_) (.cons rfl (fun K hK => ?_) .nil)
   ·go_simp
    go_at_call 90
    refine (HR1.out _ (HV.out.2.2.trans (hQ29.bel.mono HV.out.2.2.size))).mono ?_
    rintro e v30 ⟨s3, p3, k3, c3, q3, l3, d3, sz3, pz3, kz3, cz3, qz3, lz3, dz3, x3, y3, e3, rfl, hF30, hB30⟩
    have hQ30 := hQ29.call hB30
    have hz30 : v29.heap.size ≤ v30.heap.size := hB30.size
    have hX30 := hX29.below hB30
    go_wp2_with fail
    refine hK.out _ _ (HS.out _ hQ30) (fun hHeld => ?_)
    clear hK K
    try simp only [Act.put, setIfInBounds_toArray, set_cons_zero, set_cons_succ]
    refine wpAnyH_ready (rs := [3, 5]) (by kernel_rfl) (by simp) ?_
    refine .cons rfl (fun K hK => ?_) (.cons rfl (fun K hK => ?_) .nil)
    ·go_simp
     go_at_call 90
     refine (HR2.out _ (HV.out.2.2.trans (hQ30.bel.mono HV.out.2.2.size))).mono ?_
     rintro e v31 ⟨s4, p4, k4, c4, q4, l4, d4, sz4, pz4, kz4, cz4, qz4, lz4, dz4, x4, y4, e4, rfl, hF31, hB31⟩
     have hQ31 := hQ30.call hB31
     have hz31 : v30.heap.size ≤ v31.heap.size := hB31.size
     have hX31 := hX30.below hB31
     have hG031 := hid (JRep.below hF30.out hB31)
     go_wp2_with fail
     refine hK.out _ _ (HS.out _ hQ31) (fun hHeld => ?_)
     clear hK K
     try simp only [Act.put, setIfInBounds_toArray, set_cons_zero, set_cons_succ]
     refine wpAnyH_ready (rs := [5]) (by kernel_rfl) (by simp) ?_
     refine .cons rfl (fun K hK => ?_) .nil
     ·go_simp
      generalize hA32 : World.alloc _ _ = v32
      obtain ⟨hB32, hY32, hz32⟩ := al_step hA32 nd_J
      clear hA32
      have hQ32 := hQ31.call hB32
      have hX32 := hX31.below hB32
      have hG032 := hid (JRep.below hG031.out hB32)
      have hG132 := hid (JRep.below hF31.out hB32)
      refine hK.out _ _ (HS.out _ hQ32) (fun hHeld => ?_)
      clear hK K
      try simp only [Act.put, setIfInBounds_toArray, set_cons_zero, set_cons_succ]
      refine wpAnyH_ready (rs := [6]) (by kernel_rfl) (by simp) ?_
      refine .cons rfl (fun K hK => ?_) .nil
      ·obtain ⟨g33_0, g33_1, g33_2, g33_3, g33_4, g33_5, g33_6, g33_7, g33_8, g33_9, g33_10, g33_11, g33_12, g33_13, g33_14, g33_15, g33_16, g33_17⟩ := hX32.cells9
       go_simp
       generalize hW33 : World.setCell _ _ _ = v33
       obtain ⟨hQ33, hX33, hY33, hG033, hG133, hz33⟩ := st_step (R := JRep) (fun _ _ _ _ _ _ _ => JRep.stores) (w := v32) (B := v0.heap.size) (vs := [.bool s3, .slice p3 k3 c3, .slice q3 l3 d3, .bool sz3, .slice pz3 kz3 cz3, .slice qz3 lz3 dz3, .bool x3, .bool y3, .bool e3]) hW33 hQ32 hX32 rfl nd_J (ne2 (by omega) (by omega)) (by omega) hY32 (by omega) hG032 hG132
       clear hW33
       refine hK.out _ _ (HS.out _ hQ33) (fun hHeld => ?_)
       clear hK K
       try simp only [Act.put, setIfInBounds_toArray, set_cons_zero, set_cons_succ]
       refine wpAnyH_ready (rs := [7]) (by kernel_rfl) (by simp) ?_
       refine .cons rfl (fun K hK => ?_) .nil
       ·obtain ⟨g34_0, g34_1, g34_2, g34_3, g34_4, g34_5, g34_6, g34_7, g34_8, g34_9, g34_10, g34_11, g34_12, g34_13, g34_14, g34_15, g34_16, g34_17⟩ := hY33.cells9
        go_simp
        generalize hW34 : World.setCell _ _ _ = v34
        obtain ⟨hQ34, hY34, hX34, hG034, hG134, hz34⟩ := st_step (R := JRep) (fun _ _ _ _ _ _ _ => JRep.stores) (w := v33) (B := v31.heap.size) (vs := [.bool s4, .slice p4 k4 c4, .slice q4 l4 d4, .bool sz4, .slice pz4 kz4 cz4, .slice qz4 lz4 dz4, .bool x4, .bool y4, .bool e4]) hW34 hQ33 hY33 rfl nd_J (ne2 (by omega) (by omega)) (by omega) hX33 (by omega) hG033 hG133
        clear hW34
        refine hK.out _ _ (HS.out _ hQ34) (fun hHeld => ?_)
        clear hK K
        try simp only [Act.put, setIfInBounds_toArray, set_cons_zero, set_cons_succ]
        refine wpAnyH_done (by kernel_rfl) (NoPanic.normal ?_) _
        go_wp2_with fail
        go_meet
        exact ⟨v0.heap.size, v31.heap.size, s3, p3, k3, c3, q3, l3, d3, sz3, pz3, kz3, cz3, qz3, lz3, dz3, x3, y3, e3, s4, p4, k4, c4, q4, l4, d4, sz4, pz4, kz4, cz4, qz4, lz4, dz4, x4, y4, e4, rfl, rfl, by omega, hX34, hY34, hG034.out, hG134.out, hQ34.bel, by omega, by omega⟩
    ·go_simp
     generalize hA35 : World.alloc _ _ = v35
     obtain ⟨hB35, hY35, hz35⟩ := al_step hA35 nd_J
     clear hA35
     have hQ35 := hQ30.call hB35
     have hX35 := hX30.below hB35
     have hG035 := hid (JRep.below hF30.out hB35)
     refine hK.out _ _ (HS.out _ hQ35) (fun hHeld => ?_)
     clear hK K
     try simp only [Act.put, setIfInBounds_toArray, set_cons_zero, set_cons_succ]
     refine wpAnyH_ready (rs := [3]) (by kernel_rfl) (by simp) ?_
     refine .cons rfl (fun K hK => ?_) .nil
     ·go_simp
      go_at_call 90
      refine (HR2.out _ (HV.out.2.2.trans (hQ35.bel.mono HV.out.2.2.size))).mono ?_
      rintro e v36 ⟨s4, p4, k4, c4, q4, l4, d4, sz4, pz4, kz4, cz4, qz4, lz4, dz4, x4, y4, e4, rfl, hF36, hB36⟩
      have hQ36 := hQ35.call hB36
      have hz36 : v35.heap.size ≤ v36.heap.size := hB36.size
      have hX36 := hX35.below hB36
      have hY36 := hY35.below hB36
      have hG036 := hid (JRep.below hG035.out hB36)
      go_wp2_with fail
      refine hK.out _ _ (HS.out _ hQ36) (fun hHeld => ?_)
      clear hK K
      try simp only [Act.put, setIfInBounds_toArray, set_cons_zero, set_cons_succ]
      refine wpAnyH_ready (rs := [6]) (by kernel_rfl) (by simp) ?_
      refine .cons rfl (fun K hK => ?_) .nil
      ·obtain ⟨g37_0, g37_1, g37_2, g37_3, g37_4, g37_5, g37_6, g37_7, g37_8, g37_9, g37_10, g37_11, g37_12, g37_13, g37_14, g37_15, g37_16, g37_17⟩ := hX36.cells9
       go_simp
       generalize hW37 : World.setCell _ _ _ = v37
       obtain ⟨hQ37, hX37, hY37, hG037, hG137, hz37⟩ := st_step (R := JRep) (fun _ _ _ _ _ _ _ => JRep.stores) (w := v36) (B := v0.heap.size) (vs := [.bool s3, .slice p3 k3 c3, .slice q3 l3 d3, .bool sz3, .slice pz3 kz3 cz3, .slice qz3 lz3 dz3, .bool x3, .bool y3, .bool e3]) hW37 hQ36 hX36 rfl nd_J (ne2 (by omega) (by omega)) (by omega) hY36 (by omega) hG036 hF36
       clear hW37
       refine hK.out _ _ (HS.out _ hQ37) (fun hHeld => ?_)
       clear hK K
       try simp only [Act.put, setIfInBounds_toArray, set_cons_zero, set_cons_succ]
       refine wpAnyH_ready (rs := [7]) (by kernel_rfl) (by simp) ?_
       refine .cons rfl (fun K hK => ?_) .nil
       ·obtain ⟨g38_0, g38_1, g38_2, g38_3, g38_4, g38_5, g38_6, g38_7, g38_8, g38_9, g38_10, g38_11, g38_12, g38_13, g38_14, g38_15, g38_16, g38_17⟩ := hY37.cells9
        go_simp
        generalize hW38 : World.setCell _ _ _ = v38
        obtain ⟨hQ38, hY38, hX38, hG038, hG138, hz38⟩ := st_step (R := JRep) (fun _ _ _ _ _ _ _ => JRep.stores) (w := v37) (B := v30.heap.size) (vs := [.bool s4, .slice p4 k4 c4, .slice q4 l4 d4, .bool sz4, .slice pz4 kz4 cz4, .slice qz4 lz4 dz4, .bool x4, .bool y4, .bool e4]) hW38 hQ37 hY37 rfl nd_J (ne2 (by omega) (by omega)) (by omega) hX37 (by omega) hG037 hG137
        clear hW38
        refine hK.out _ _ (HS.out _ hQ38) (fun hHeld => ?_)
        clear hK K
        try simp only [Act.put, setIfInBounds_toArray, set_cons_zero, set_cons_succ]
        refine wpAnyH_done (by kernel_rfl) (NoPanic.normal ?_) _
        go_wp2_with fail
        go_meet
        exact ⟨v0.heap.size, v30.heap.size, s3, p3, k3, c3, q3, l3, d3, sz3, pz3, kz3, cz3, qz3, lz3, dz3, x3, y3, e3, s4, p4, k4, c4, q4, l4, d4, sz4, pz4, kz4, cz4, qz4, lz4, dz4, x4, y4, e4, rfl, rfl, by omega, hX38, hY38, hG038.out, hG138.out, hQ38.bel, by omega, by omega⟩
   ·go_simp
    generalize hA39 : World.alloc _ _ = v39
    obtain ⟨hB39, hY39, hz39⟩ := al_step hA39 nd_J
    clear hA39
    have hQ39 := hQ29.call hB39
    have hX39 := hX29.below hB39
    refine hK.out _ _ (HS.out _ hQ39) (fun hHeld => ?_)
    clear hK K
    try simp only [Act.put, setIfInBounds_toArray, set_cons_zero, set_cons_succ]
    refine wpAnyH_ready (rs := [1]) (by kernel_rfl) (by simp) ?_
    refine .cons rfl (fun K hK => ?_) .nil
    ·go_simp
     go_at_call 90
     refine (HR1.out _ (HV.out.2.2.trans (hQ39.bel.mono HV.out.2.2.size))).mono ?_
     rintro e v40 ⟨s3, p3, k3, c3, q3, l3, d3, sz3, pz3, kz3, cz3, qz3, lz3, dz3, x3, y3, e3, rfl, hF40, hB40⟩
     have hQ40 := hQ39.call hB40
     have hz40 : v39.heap.size ≤ v40.heap.size := hB40.size
     have hX40 := hX39.below hB40
     have hY40 := hY39.below hB40
     go_wp2_with fail
     refine hK.out _ _ (HS.out _ hQ40) (fun hHeld => ?_)
     clear hK K
     try simp only [Act.put, setIfInBounds_toArray, set_cons_zero, set_cons_succ]
     refine wpAnyH_ready (rs := [3]) (by kernel_rfl) (by simp) ?_
     refine .cons rfl (fun K hK => ?_) .nil
     ·go_simp
      go_at_call 90
      refine (HR2.out _ (HV.out.2.2.trans (hQ40.bel.mono HV.out.2.2.size))).mono ?_
      rintro e v41 ⟨s4, p4, k4, c4, q4, l4, d4, sz4, pz4, kz4, cz4, qz4, lz4, dz4, x4, y4, e4, rfl, hF41, hB41⟩
      have hQ41 := hQ40.call hB41
      have hz41 : v40.heap.size ≤ v41.heap.size := hB41.size
      have hX41 := hX40.below hB41
      have hY41 := hY40.below hB41
      have hG041 := hid (JRep.below hF40.out hB41)
      go_wp2_with fail
      refine hK.out _ _ (HS.out _ hQ41) (fun hHeld => ?_)
      clear hK K
      try simp only [Act.put, setIfInBounds_toArray, set_cons_zero, set_cons_succ]
      refine wpAnyH_ready (rs := [6]) (by kernel_rfl) (by simp) ?_
      refine .cons rfl (fun K hK => ?_) .nil
      ·obtain ⟨g42_0, g42_1, g42_2, g42_3, g42_4, g42_5, g42_6, g42_7, g42_8, g42_9, g42_10, g42_11, g42_12, g42_13, g42_14, g42_15, g42_16, g42_17⟩ := hX41.cells9
       go_simp
       generalize hW42 : World.setCell _ _ _ = v42
       obtain ⟨hQ42, hX42, hY42, hG042, hG142, hz42⟩ := st_step (R := JRep) (fun _ _ _ _ _ _ _ => JRep.stores) (w := v41) (B := v0.heap.size) (vs := [.bool s3, .slice p3 k3 c3, .slice q3 l3 d3, .bool sz3, .slice pz3 kz3 cz3, .slice qz3 lz3 dz3, .bool x3, .bool y3, .bool e3]) hW42 hQ41 hX41 rfl nd_J (ne2 (by omega) (by omega)) (by omega) hY41 (by omega) hG041 hF41
       clear hW42
       refine hK.out _ _ (HS.out _ hQ42) (fun hHeld => ?_)
       clear hK K
       try simp only [Act.put, setIfInBounds_toArray, set_cons_zero, set_cons_succ]
       refine wpAnyH_ready (rs := [7]) (by kernel_rfl) (by simp) ?_
       refine .cons rfl (fun K hK => ?_) .nil
       ·obtain ⟨g43_0, g43_1, g43_2, g43_3, g43_4, g43_5, g43_6, g43_7, g43_8, g43_9, g43_10, g43_11, g43_12, g43_13, g43_14, g43_15, g43_16, g43_17⟩ := hY42.cells9
        go_simp
        generalize hW43 : World.setCell _ _ _ = v43
        obtain ⟨hQ43, hY43, hX43, hG043, hG143, hz43⟩ := st_step (R := JRep) (fun _ _ _ _ _ _ _ => JRep.stores) (w := v42) (B := v29.heap.size) (vs := [.bool s4, .slice p4 k4 c4, .slice q4 l4 d4, .bool sz4, .slice pz4 kz4 cz4, .slice qz4 lz4 dz4, .bool x4, .bool y4, .bool e4]) hW43 hQ42 hY42 rfl nd_J (ne2 (by omega) (by omega)) (by omega) hX42 (by omega) hG042 hG142
        clear hW43
        refine hK.out _ _ (HS.out _ hQ43) (fun hHeld => ?_)
        clear hK K
        try simp only [Act.put, setIfInBounds_toArray, set_cons_zero, set_cons_succ]
        refine wpAnyH_done (by kernel_rfl) (NoPanic.normal ?_) _
        go_wp2_with fail
        go_meet
        exact ⟨v0.heap.size, v29.heap.size, s3, p3, k3, c3, q3, l3, d3, sz3, pz3, kz3, cz3, qz3, lz3, dz3, x3, y3, e3, s4, p4, k4, c4, q4, l4, d4, sz4, pz4, kz4, cz4, qz4, lz4, dz4, x4, y4, e4, rfl, rfl, by omega, hX43, hY43, hG043.out, hG143.out, hQ43.bel, by omega, by omega⟩
  ·go_simp
   generalize hA44 : World.alloc _ _ = v44
   obtain ⟨hB44, hY44, hz44⟩ := al_step hA44 nd_J
   clear hA44
   have hQ44 := hQ0.call hB44
   refine hK.out _ _ (HS.out _ hQ44) (fun hHeld => ?_)
   clear hK K
   try simp only [Act.put, setIfInBounds_toArray, set_cons_zero, set_cons_succ]
   refine wpAnyH_ready (rs := [1, 4]) (by kernel_rfl) (by simp) ?_
   refine .cons rfl (fun K hK => ?_) (.cons rfl (fun K hK => ?_) .nil)
   ·go_simp
    go_at_call 90
    refine (HR1.out _ (HV.out.2.2.trans (hQ44.bel.mono HV.out.2.2.size))).mono ?_
    rintro e v45 ⟨s3, p3, k3, c3, q3, l3, d3, sz3, pz3, kz3, cz3, qz3, lz3, dz3, x3, y3, e3, rfl, hF45, hB45⟩
    have hQ45 := hQ44.call hB45
    have hz45 : v44.heap.size ≤ v45.heap.size := hB45.size
    have hY45 := hY44.below hB45
    go_wp2_with fail
    refine hK.out _ _ (HS.out _ hQ45) (fun hHeld => ?_)
    clear hK K
    try simp only [Act.put, setIfInBounds_toArray, set_cons_zero, set_cons_succ]
    refine wpAnyH_ready (rs := [3, 4]) (by kernel_rfl) (by simp) ?_
    refine .cons rfl (fun K hK => ?_) (.cons rfl (fun K hK => ?_) .nil)
    ·go_simp
     go_at_call 90
     refine (HR2.out _ (HV.out.2.2.trans (hQ45.bel.mono HV.out.2.2.size))).mono ?_
     rintro e v46 ⟨s4, p4, k4, c4, q4, l4, d4, sz4, pz4, kz4, cz4, qz4, lz4, dz4, x4, y4, e4, rfl, hF46, hB46⟩
     have hQ46 := hQ45.call hB46
     have hz46 : v45.heap.size ≤ v46.heap.size := hB46.size
     have hY46 := hY45.below hB46
     have hG046 := hid (JRep.below hF45.out hB46)
     go_wp2_with fail
     refine hK.out _ _ (HS.out _ hQ46) (fun hHeld => ?_)
     clear hK K
     try simp only [Act.put, setIfInBounds_toArray, set_cons_zero, set_cons_succ]
     refine wpAnyH_ready (rs := [4]) (by kernel_rfl) (by simp) ?_
     refine .cons rfl (fun K hK => ?_) .nil
     ·go_simp
      generalize hA47 : World.alloc _ _ = v47
      obtain ⟨hB47, hX47, hz47⟩ := al_step hA47 nd_J
      clear hA47
      have hQ47 := hQ46.call hB47
      have hY47 := hY46.below hB47
      have hG047 := hid (JRep.below hG046.out hB47)
      have hG147 := hid (JRep.below hF46.out hB47)
      refine hK.out _ _ (HS.out _ hQ47) (fun hHeld => ?_)
      clear hK K
      try simp only [Act.put, setIfInBounds_toArray, set_cons_zero, set_cons_succ]
      refine wpAnyH_ready (rs := [6]) (by kernel_rfl) (by simp) ?_
      refine .cons rfl (fun K hK => ?_) .nil
      ·obtain ⟨g48_0, g48_1, g48_2, g48_3, g48_4, g48_5, g48_6, g48_7, g48_8, g48_9, g48_10, g48_11, g48_12, g48_13, g48_14, g48_15, g48_16, g48_17⟩ := hX47.cells9
       go_simp
       generalize hW48 : World.setCell _ _ _ = v48
       obtain ⟨hQ48, hX48, hY48, hG048, hG148, hz48⟩ := st_step (R := JRep) (fun _ _ _ _ _ _ _ => JRep.stores) (w := v47) (B := v46.heap.size) (vs := [.bool s3, .slice p3 k3 c3, .slice q3 l3 d3, .bool sz3, .slice pz3 kz3 cz3, .slice qz3 lz3 dz3, .bool x3, .bool y3, .bool e3]) hW48 hQ47 hX47 rfl nd_J (ne2 (by omega) (by omega)) (by omega) hY47 (by omega) hG047 hG147
       clear hW48
       refine hK.out _ _ (HS.out _ hQ48) (fun hHeld => ?_)
       clear hK K
       try simp only [Act.put, setIfInBounds_toArray, set_cons_zero, set_cons_succ]
       refine wpAnyH_ready (rs := [7]) (by kernel_rfl) (by simp) ?_
       refine .cons rfl (fun K hK => ?_) .nil
       ·obtain ⟨g49_0, g49_1, g49_2, g49_3, g49_4, g49_5, g49_6, g49_7, g49_8, g49_9, g49_10, g49_11, g49_12, g49_13, g49_14, g49_15, g49_16, g49_17⟩ := hY48.cells9
        go_simp
        generalize hW49 : World.setCell _ _ _ = v49
        obtain ⟨hQ49, hY49, hX49, hG049, hG149, hz49⟩ := st_step (R := JRep) (fun _ _ _ _ _ _ _ => JRep.stores) (w := v48) (B := v0.heap.size) (vs := [.bool s4, .slice p4 k4 c4, .slice q4 l4 d4, .bool sz4, .slice pz4 kz4 cz4, .slice qz4 lz4 dz4, .bool x4, .bool y4, .bool e4]) hW49 hQ48 hY48 rfl nd_J (ne2 (by omega) (by omega)) (by omega) hX48 (by omega) hG048 hG148
        clear hW49
        refine hK.out _ _ (HS.out _ hQ49) (fun hHeld => ?_)
        clear hK K
        try simp only [Act.put, setIfInBounds_toArray, set_cons_zero, set_cons_succ]
        refine wpAnyH_done (by kernel_rfl) (NoPanic.normal ?_) _
        go_wp2_with fail
        go_meet
        exact ⟨v46.heap.size, v0.heap.size, s3, p3, k3, c3, q3, l3, d3, sz3, pz3, kz3, cz3, qz3, lz3, dz3, x3, y3, e3, s4, p4, k4, c4, q4, l4, d4, sz4, pz4, kz4, cz4, qz4, lz4, dz4, x4, y4, e4, rfl, rfl, by omega, hX49, hY49, hG049.out, hG149.out, hQ49.bel, by omega, by omega⟩
    ·go_simp
     generalize hA50 : World.alloc _ _ = v50
     obtain ⟨hB50, hX50, hz50⟩ := al_step hA50 nd_J
     clear hA50
     have hQ50 := hQ45.call hB50
     have hY50 := hY45.below hB50
     have hG050 := hid (JRep.below hF45.out hB50)
     refine hK.out _ _ (HS.out _ hQ50) (fun hHeld => ?_)
     clear hK K
     try simp only [Act.put, setIfInBounds_toArray, set_cons_zero, set_cons_succ]
     refine wpAnyH_ready (rs := [3]) (by kernel_rfl) (by simp) ?_
     refine .cons rfl (fun K hK => ?_) .nil
     ·go_simp
      go_at_call 90
      refine (HR2.out _ (HV.out.2.2.trans (hQ50.bel.mono HV.out.2.2.size))).mono ?_
      rintro e v51 ⟨s4, p4, k4, c4, q4, l4, d4, sz4, pz4, kz4, cz4, qz4, lz4, dz4, x4, y4, e4, rfl, hF51, hB51⟩
      have hQ51 := hQ50.call hB51
      have hz51 : v50.heap.size ≤ v51.heap.size := hB51.size
      have hY51 := hY50.below hB51
      have hX51 := hX50.below hB51
      have hG051 := hid (JRep.below hG050.out hB51)
      go_wp2_with fail
      refine hK.out _ _ (HS.out _ hQ51) (fun hHeld => ?_)
      clear hK K
      try simp only [Act.put, setIfInBounds_toArray, set_cons_zero, set_cons_succ]
      refine wpAnyH_ready (rs := [6]) (by kernel_rfl) (by simp) ?_
      refine .cons rfl (fun K hK => ?_) .nil
      ·obtain ⟨g52_0, g52_1, g52_2, g52_3, g52_4, g52_5, g52_6, g52_7, g52_8, g52_9, g52_10, g52_11, g52_12, g52_13, g52_14, g52_15, g52_16, g52_17⟩ := hX51.cells9
       go_simp
       generalize hW52 : World.setCell _ _ _ = v52
       obtain ⟨hQ52, hX52, hY52, hG052, hG152, hz52⟩ := st_step (R := JRep) (fun _ _ _ _ _ _ _ => JRep.stores) (w := v51) (B := v45.heap.size) (vs := [.bool s3, .slice p3 k3 c3, .slice q3 l3 d3, .bool sz3, .slice pz3 kz3 cz3, .slice qz3 lz3 dz3, .bool x3, .bool y3, .bool e3]) hW52 hQ51 hX51 rfl nd_J (ne2 (by omega) (by omega)) (by omega) hY51 (by omega) hG051 hF51
       clear hW52
       refine hK.out _ _ (HS.out _ hQ52) (fun hHeld => ?_)
       clear hK K
       try simp only [Act.put, setIfInBounds_toArray, set_cons_zero, set_cons_succ]
       refine wpAnyH_ready (rs := [7]) (by kernel_rfl) (by simp) ?_
       refine .cons rfl (fun K hK => ?_) .nil
       ·obtain ⟨g53_0, g53_1, g53_2, g53_3, g53_4, g53_5, g53_6, g53_7, g53_8, g53_9, g53_10, g53_11, g53_12, g53_13, g53_14, g53_15, g53_16, g53_17⟩ := hY52.cells9
        go_simp
        generalize hW53 : World.setCell _ _ _ = v53
        obtain ⟨hQ53, hY53, hX53, hG053, hG153, hz53⟩ := st_step (R := JRep) (fun _ _ _ _ _ _ _ => JRep.stores) (w := v52) (B := v0.heap.size) (vs := [.bool s4, .slice p4 k4 c4, .slice q4 l4 d4, .bool sz4, .slice pz4 kz4 cz4, .slice qz4 lz4 dz4, .bool x4, .bool y4, .bool e4]) hW53 hQ52 hY52 rfl nd_J (ne2 (by omega) (by omega)) (by omega) hX52 (by omega) hG052 hG152
        clear hW53
        refine hK.out _ _ (HS.out _ hQ53) (fun hHeld => ?_)
        clear hK K
        try simp only [Act.put, setIfInBounds_toArray, set_cons_zero, set_cons_succ]
        refine wpAnyH_done (by kernel_rfl) (NoPanic.normal ?_) _
        go_wp2_with fail
        go_meet
        exact ⟨v45.heap.size, v0.heap.size, s3, p3, k3, c3, q3, l3, d3, sz3, pz3, kz3, cz3, qz3, lz3, dz3, x3, y3, e3, s4, p4, k4, c4, q4, l4, d4, sz4, pz4, kz4, cz4, qz4, lz4, dz4, x4, y4, e4, rfl, rfl, by omega, hX53, hY53, hG053.out, hG153.out, hQ53.bel, by omega, by omega⟩
   ·go_simp
    generalize hA54 : World.alloc _ _ = v54
    obtain ⟨hB54, hX54, hz54⟩ := al_step hA54 nd_J
    clear hA54
    have hQ54 := hQ44.call hB54
    have hY54 := hY44.below hB54
    refine hK.out _ _ (HS.out _ hQ54) (fun hHeld => ?_)
    clear hK K
    try simp only [Act.put, setIfInBounds_toArray, set_cons_zero, set_cons_succ]
    refine wpAnyH_ready (rs := [1]) (by kernel_rfl) (by simp) ?_
    refine .cons rfl (fun K hK => ?_) .nil
    ·go_simp
     go_at_call 90
     refine (HR1.out _ (HV.out.2.2.trans (hQ54.bel.mono HV.out.2.2.size))).mono ?_
     rintro e v55 ⟨s3, p3, k3, c3, q3, l3, d3, sz3, pz3, kz3, cz3, qz3, lz3, dz3, x3, y3, e3, rfl, hF55, hB55⟩
     have hQ55 := hQ54.call hB55
     have hz55 : v54.heap.size ≤ v55.heap.size := hB55.size
     have hY55 := hY54.below hB55
     have hX55 := hX54.below hB55
     go_wp2_with fail
     refine hK.out _ _ (HS.out _ hQ55) (fun hHeld => ?_)
     clear hK K
     try simp only [Act.put, setIfInBounds_toArray, set_cons_zero, set_cons_succ]
     refine wpAnyH_ready (rs := [3]) (by kernel_rfl) (by simp) ?_
     refine .cons rfl (fun K hK => ?_) .nil
     ·go_simp
      go_at_call 90
      refine (HR2.out _ (HV.out.2.2.trans (hQ55.bel.mono HV.out.2.2.size))).mono ?_
      rintro e v56 ⟨s4, p4, k4, c4, q4, l4, d4, sz4, pz4, kz4, cz4, qz4, lz4, dz4, x4, y4, e4, rfl, hF56, hB56⟩
      have hQ56 := hQ55.call hB56
      have hz56 : v55.heap.size ≤ v56.heap.size := hB56.size
      have hY56 := hY55.below hB56
      have hX56 := hX55.below hB56
      have hG056 := hid (JRep.below hF55.out hB56)
      go_wp2_with fail
      refine hK.out _ _ (HS.out _ hQ56) (fun hHeld => ?_)
      clear hK K
      try simp only [Act.put, setIfInBounds_toArray, set_cons_zero, set_cons_succ]
      refine wpAnyH_ready (rs := [6]) (by kernel_rfl) (by simp) ?_
      refine .cons rfl (fun K hK => ?_) .nil
      ·obtain ⟨g57_0, g57_1, g57_2, g57_3, g57_4, g57_5, g57_6, g57_7, g57_8, g57_9, g57_10, g57_11, g57_12, g57_13, g57_14, g57_15, g57_16, g57_17⟩ := hX56.cells9
       go_simp
       generalize hW57 : World.setCell _ _ _ = v57
       obtain ⟨hQ57, hX57, hY57, hG057, hG157, hz57⟩ := st_step (R := JRep) (fun _ _ _ _ _ _ _ => JRep.stores) (w := v56) (B := v44.heap.size) (vs := [.bool s3, .slice p3 k3 c3, .slice q3 l3 d3, .bool sz3, .slice pz3 kz3 cz3, .slice qz3 lz3 dz3, .bool x3, .bool y3, .bool e3]) hW57 hQ56 hX56 rfl nd_J (ne2 (by omega) (by omega)) (by omega) hY56 (by omega) hG056 hF56
       clear hW57
       refine hK.out _ _ (HS.out _ hQ57) (fun hHeld => ?_)
       clear hK K
       try simp only [Act.put, setIfInBounds_toArray, set_cons_zero, set_cons_succ]
       refine wpAnyH_ready (rs := [7]) (by kernel_rfl) (by simp) ?_
       refine .cons rfl (fun K hK => ?_) .nil
       ·obtain ⟨g58_0, g58_1, g58_2, g58_3, g58_4, g58_5, g58_6, g58_7, g58_8, g58_9, g58_10, g58_11, g58_12, g58_13, g58_14, g58_15, g58_16, g58_17⟩ := hY57.cells9
        go_simp
        generalize hW58 : World.setCell _ _ _ = v58
        obtain ⟨hQ58, hY58, hX58, hG058, hG158, hz58⟩ := st_step (R := JRep) (fun _ _ _ _ _ _ _ => JRep.stores) (w := v57) (B := v0.heap.size) (vs := [.bool s4, .slice p4 k4 c4, .slice q4 l4 d4, .bool sz4, .slice pz4 kz4 cz4, .slice qz4 lz4 dz4, .bool x4, .bool y4, .bool e4]) hW58 hQ57 hY57 rfl nd_J (ne2 (by omega) (by omega)) (by omega) hX57 (by omega) hG057 hG157
        clear hW58
        refine hK.out _ _ (HS.out _ hQ58) (fun hHeld => ?_)
        clear hK K
        try simp only [Act.put, setIfInBounds_toArray, set_cons_zero, set_cons_succ]
        refine wpAnyH_done (by kernel_rfl) (NoPanic.normal ?_) _
        go_wp2_with fail
        go_meet
        exact ⟨v44.heap.size, v0.heap.size, s3, p3, k3, c3, q3, l3, d3, sz3, pz3, kz3, cz3, qz3, lz3, dz3, x3, y3, e3, s4, p4, k4, c4, q4, l4, d4, sz4, pz4, kz4, cz4, qz4, lz4, dz4, x4, y4, e4, rfl, rfl, by omega, hX58, hY58, hG058.out, hG158.out, hQ58.bel, by omega, by omega⟩
 case rest =>
  obtain ⟨X, Y, s3, p3, k3, c3, q3, l3, d3, sz3, pz3, kz3, cz3, qz3, lz3, dz3, x3, y3, e3, s4, p4, k4, c4, q4, l4, d4, sz4, pz4, kz4, cz4, qz4, lz4, dz4, x4, y4, e4, rfl, rfl, hXY, hX, hY, hF1, hF2, hBc, hlX, hlY⟩ := hcut
  have hW := HV.out.2.2.trans (hBc.mono HV.out.2.2.size)
  obtain ⟨hq1, hq2, hx3, hy3, he3⟩ := JRep.parts s3 p3 k3 c3 q3 l3 d3 sz3 pz3 kz3 cz3 qz3 lz3 dz3 x3 y3 e3 hF1
  obtain ⟨hq3, hq4, hx4, hy4, he4⟩ := JRep.parts s4 p4 k4 c4 q4 l4 d4 sz4 pz4 kz4 cz4 qz4 lz4 dz4 x4 y4 e4 hF2
  have ez : z = if e3 || e4 then e3 && e4 else (x3 == x4 && (y3 == y4 && (decide (c = 0) && decide (d = 0)))) := by rw [HZ.out, hx3, hx4, hy3, hy4, he3, he4]; rfl
  have HB := hid (And.intro hX (And.intro hY hW))
  have HC1 := hid (fun (q : x3 = x4) (q1 : e3 = false) (q2 : e4 = false) (W : World) (hb : Below wc.heap.size wc W) => HC.out (by rw [← hx3, ← hx4]; exact q) (by rw [← he3]; exact q1) (by rw [← he4]; exact q2) W s3 p3 k3 c3 q3 l3 d3 s4 p4 k4 c4 q4 l4 d4 (hq1.below hb) (hq3.below hb))
  have HC2 := hid (fun (q : y3 = y4) (q1 : e3 = false) (q2 : e4 = false) (W : World) (hb : Below wc.heap.size wc W) => HD.out (by rw [← hy3, ← hy4]; exact q) (by rw [← he3]; exact q1) (by rw [← he4]; exact q2) W sz3 pz3 kz3 cz3 qz3 lz3 dz3 sz4 pz4 kz4 cz4 qz4 lz4 dz4 (hq2.below hb) (hq4.below hb))
  clear hX hY hF1 hF2 hBc hW HR1 HR2 hq1 hq2 hq3 hq4 hx3 hx4 hy3 hy4 he3 he4 HC HD HV HZ
  have HEZ := hid ez
  clear ez
  obtain ⟨m0, m1, m2, m3, m4, m5, m6, m7, m8, _⟩ := HB.out.1.cells9
  obtain ⟨n0, n1, n2, n3, n4, n5, n6, n7, n8, _⟩ := HB.out.2.1.cells9
  cases e3 <;> cases e4
  case false.false =>
   by_cases hm : x3 = x4 ∧ y3 = y4
   ·obtain ⟨rfl, rfl⟩ := hm
    have HD1 := hid (HC1.out rfl rfl rfl)
    have HD2 := hid (HC2.out rfl rfl rfl)
    clear HC1 HC2
    have hxx : (x3 == x3) = true := by simp
    have hyy : (y3 == y3) = true := by simp
    by_cases hc0 : c = 0
    ·subst hc0
     by_cases hd0 : d = 0
     ·subst hd0
      go_wp2_with fail
      refine (HD1.out _ (Below.refl _ _)).mono ?_
      rintro e wd ⟨rfl, hBd⟩
      clear m0 m1 m2 m3 m4 m5 m6 m7 m8 n0 n1 n2 n3 n4 n5 n6 n7 n8
      obtain ⟨m0, m1, m2, m3, m4, m5, m6, m7, m8, _⟩ := (HB.out.1.below hBd).cells9
      obtain ⟨n0, n1, n2, n3, n4, n5, n6, n7, n8, _⟩ := (HB.out.2.1.below hBd).cells9
      go_wp2_with fail
      refine (HD2.out _ hBd).mono ?_
      rintro e wf ⟨rfl, hBf⟩
      go_wp2_with fail
      go_ret
      exact ⟨by rw [HEZ.out, hxx, hyy]; rfl, (HB.out.2.2.trans (hBd.mono HB.out.2.2.size)).trans (hBf.mono (HB.out.2.2.trans (hBd.mono HB.out.2.2.size)).size)⟩
     ·have hd1 : decide (d = 0) = false := decide_eq_false hd0
      have hd2 : (d == 0) = false := by simp [hd0]
      go_wp2_with fail
      refine (HD1.out _ (Below.refl _ _)).mono ?_
      rintro e wd ⟨rfl, hBd⟩
      clear m0 m1 m2 m3 m4 m5 m6 m7 m8 n0 n1 n2 n3 n4 n5 n6 n7 n8
      obtain ⟨m0, m1, m2, m3, m4, m5, m6, m7, m8, _⟩ := (HB.out.1.below hBd).cells9
      obtain ⟨n0, n1, n2, n3, n4, n5, n6, n7, n8, _⟩ := (HB.out.2.1.below hBd).cells9
      go_wp2_with fail
      refine (HD2.out _ hBd).mono ?_
      rintro e wf ⟨rfl, hBf⟩
      go_wp2_with fail
      go_ret
      exact ⟨by rw [HEZ.out, hxx, hyy, hd1]; rfl, (HB.out.2.2.trans (hBd.mono HB.out.2.2.size)).trans (hBf.mono (HB.out.2.2.trans (hBd.mono HB.out.2.2.size)).size)⟩
    ·have hc1 : decide (c = 0) = false := decide_eq_false hc0
     have hc2 : (c == 0) = false := by simp [hc0]
     go_wp2_with fail
     refine (HD1.out _ (Below.refl _ _)).mono ?_
     rintro e wd ⟨rfl, hBd⟩
     clear m0 m1 m2 m3 m4 m5 m6 m7 m8 n0 n1 n2 n3 n4 n5 n6 n7 n8
     obtain ⟨m0, m1, m2, m3, m4, m5, m6, m7, m8, _⟩ := (HB.out.1.below hBd).cells9
     obtain ⟨n0, n1, n2, n3, n4, n5, n6, n7, n8, _⟩ := (HB.out.2.1.below hBd).cells9
     go_wp2_with fail
     go_ret
     exact ⟨by rw [HEZ.out, hxx, hyy, hc1]; rfl, HB.out.2.2.trans (hBd.mono HB.out.2.2.size)⟩
   ·clear HC1 HC2
    cases x3 <;> cases x4 <;> cases y3 <;> cases y4
    all_goals first | exact absurd ⟨rfl, rfl⟩ hm | skip
    all_goals
     clear hm
     go_wp2_with fail
     go_ret
     exact ⟨by rw [HEZ.out]; rfl, HB.out.2.2⟩
  all_goals
   go_wp2_with fail
   go_ret
   exact ⟨by rw [HEZ.out]; rfl, HB.out.2.2⟩
theorem jSame_eq (s1 : Bool) (p1 : Option Addr) (k1 c1 : Nat) (q1 : Option Addr) (l1 d1 : Nat) (sz1 : Bool) (pz1 : Option Addr) (kz1 cz1 : Nat) (qz1 : Option Addr) (lz1 dz1 : Nat) (x1 : Bool) (y1 : Bool) (s2 : Bool) (p2 : Option Addr) (k2 c2 : Nat) (q2 : Option Addr) (l2 d2 : Nat) (sz2 : Bool) (pz2 : Option Addr) (kz2 cz2 : Nat) (qz2 : Option Addr) (lz2 dz2 : Nat) (x2 : Bool) (y2 : Bool) (r : (Bool × Nat × Nat) × (Bool × Nat × Nat) × Bool × Bool × Bool) (w : World) (hr : JCmp r)
  (h1 : ∀ W, Below w.heap.size w W → Calls Tryz.prog 90 #[.agg #[.bool s1, .slice p1 k1 c1, .slice q1 l1 d1, .bool sz1, .slice pz1 kz1 cz1, .slice qz1 lz1 dz1, .bool x1, .bool y1]] W fun e w' => ∃ s3 p3 k3 c3 q3 l3 d3 sz3 pz3 kz3 cz3 qz3 lz3 dz3 x3 y3 e3, e = .returned (.agg #[.bool s3, .slice p3 k3 c3, .slice q3 l3 d3, .bool sz3, .slice pz3 kz3 cz3, .slice qz3 lz3 dz3, .bool x3, .bool y3, .bool e3]) ∧ Hid (JRep w' (.agg #[.bool s3, .slice p3 k3 c3, .slice q3 l3 d3, .bool sz3, .slice pz3 kz3 cz3, .slice qz3 lz3 dz3, .bool x3, .bool y3, .bool e3]) r) ∧ Below W.heap.size W w')
  (h2 : ∀ W, Below w.heap.size w W → Calls Tryz.prog 90 #[.agg #[.bool s2, .slice p2 k2 c2, .slice q2 l2 d2, .bool sz2, .slice pz2 kz2 cz2, .slice qz2 lz2 dz2, .bool x2, .bool y2]] W fun e w' => ∃ s3 p3 k3 c3 q3 l3 d3 sz3 pz3 kz3 cz3 qz3 lz3 dz3 x3 y3 e3, e = .returned (.agg #[.bool s3, .slice p3 k3 c3, .slice q3 l3 d3, .bool sz3, .slice pz3 kz3 cz3, .slice qz3 lz3 dz3, .bool x3, .bool y3, .bool e3]) ∧ Hid (JRep w' (.agg #[.bool s3, .slice p3 k3 c3, .slice q3 l3 d3, .bool sz3, .slice pz3 kz3 cz3, .slice qz3 lz3 dz3, .bool x3, .bool y3, .bool e3]) r) ∧ Below W.heap.size W w') :
  Calls Tryz.prog 56 #[.agg #[.bool s1, .slice p1 k1 c1, .slice q1 l1 d1, .bool sz1, .slice pz1 kz1 cz1, .slice qz1 lz1 dz1, .bool x1, .bool y1], .agg #[.bool s2, .slice p2 k2 c2, .slice q2 l2 d2, .bool sz2, .slice pz2 kz2 cz2, .slice qz2 lz2 dz2, .bool x2, .bool y2]] w fun e w' => e = .returned (.bool true) ∧ Below w.heap.size w w' := by
 have h := jSame_gen s1 p1 k1 c1 q1 l1 d1 sz1 pz1 kz1 cz1 qz1 lz1 dz1 x1 y1 s2 p2 k2 c2 q2 l2 d2 sz2 pz2 kz2 cz2 qz2 lz2 dz2 x2 y2 r r 0 0 w (fun _ _ _ W _ _ _ _ _ _ _ _ _ _ _ _ _ _ q q' => rCmp_self _ _ r.1 W q q' hr.1) (fun _ _ _ W _ _ _ _ _ _ _ _ _ _ _ _ _ _ q q' => rCmp_self _ _ r.2.1 W q q' hr.2) h1 h2
 have e : jsm r r 0 0 = true := by
  unfold jsm
  cases r.2.2.2.2 <;> simp
 rw [e] at h
 exact h
end Go.Proofs.YtheojajaefjecaaGreatDoor
