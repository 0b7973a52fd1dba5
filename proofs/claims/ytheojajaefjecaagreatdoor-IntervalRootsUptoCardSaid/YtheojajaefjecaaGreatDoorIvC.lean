/- Sets of the program: reading an interval. Sets of the program: reading an interval with a large number. -/
import Derived.Test.YtheojajaefjecaaGreatDoorIvA
import Derived.Deep.CutRange
set_option maxHeartbeats 4000000
set_option maxRecDepth 100000
namespace Go.Proofs.YtheojajaefjecaaGreatDoor
open Go.RowKit Dg
open List (setIfInBounds_toArray set_cons_zero set_cons_succ)
def SRep (w : World) (v : Value) (x : (Int × Bool × Nat × Nat) × (Int × Bool × Nat × Nat) × Bool) : Prop :=
 ∃ i s p k c q l d j sz pz kz cz qz lz dz e, v = .agg #[.int .i64 i, .bool s, .slice p k c, .slice q l d, .int .i64 j, .bool sz, .slice pz kz cz, .slice qz lz dz, .bool e] ∧ ERep w (.agg #[.int .i64 i, .bool s, .slice p k c, .slice q l d]) x.1 ∧ ERep w (.agg #[.int .i64 j, .bool sz, .slice pz kz cz, .slice qz lz dz]) x.2.1 ∧ e = x.2.2
def IRep (w : World) (v : Value) (a : (Bool × Nat × Nat) × (Bool × Nat × Nat) × Bool × Bool) : Prop :=
 ∃ s p k c q l d sz pz kz cz qz lz dz x y, v = .agg #[.bool s, .slice p k c, .slice q l d, .bool sz, .slice pz kz cz, .slice qz lz dz, .bool x, .bool y] ∧ NRep w (.agg #[.bool s, .slice p k c, .slice q l d]) a.1 ∧ NRep w (.agg #[.bool sz, .slice pz kz cz, .slice qz lz dz]) a.2.1 ∧ x = a.2.2.1 ∧ y = a.2.2.2
theorem IRep.below {w w' : World} {v : Value} {a : (Bool × Nat × Nat) × (Bool × Nat × Nat) × Bool × Bool} (h : IRep w v a) (hb : Below w.heap.size w w') : IRep w' v a := by
 obtain ⟨s, p, k, c, q, l, d, sz, pz, kz, cz, qz, lz, dz, x, y, hv, h1, h2, h3⟩ := h
 exact ⟨s, p, k, c, q, l, d, sz, pz, kz, cz, qz, lz, dz, x, y, hv, h1.below hb, h2.below hb, h3⟩
def rdE (inf : Bool) (g : Int) (t : Bool × Nat × Nat) : Int × Bool × Nat × Nat := if inf then (g, false, 0, 0) else (0, fr t)
def srd (a : (Bool × Nat × Nat) × (Bool × Nat × Nat) × Bool × Bool) : (Int × Bool × Nat × Nat) × (Int × Bool × Nat × Nat) × Bool := sfrom (rdE a.2.2.1 (-1) a.1) (rdE a.2.2.2 1 a.2.1)
def ilarge (a : (Bool × Nat × Nat) × (Bool × Nat × Nat) × Bool × Bool) : Bool := large a.1.2.1 a.1.2.2 || large a.2.1.2.1 a.2.1.2.2
theorem rdE_ok {inf : Bool} {g : Int} {t : Bool × Nat × Nat} (hg : g = 1 ∨ g = -1) (hl : large t.2.1 t.2.2 = false) : EOk 64 (rdE inf g t) := by
 cases inf
 ·exact ⟨fun _ => IsFr.fr t, fun h => absurd rfl h, (fr_bd hl).1, (fr_bd hl).2⟩
 ·refine ⟨fun h => ?_, fun _ => ⟨hg, rfl⟩, Nat.pow_pos W32_pos, Nat.pow_pos W32_pos⟩
  have h' : g = 0 := h
  omega
theorem QQ.of_eq {w0 : World} {l : List (Nat × List Value)} {a b : World} (h : QQ w0 l a) (e : a = b) : QQ w0 l b := e ▸ h
theorem Box.of_eq {a b : World} {B : Nat} {cs : Array Value} (h : Box a B cs) (e : a = b) : Box b B cs := e ▸ h
theorem al_step {w w' : World} {l : List Value} {t : Nat} (h : w.alloc (.cells l.toArray t) = w') (hn : NDs l) : Below w.heap.size w w' ∧ Box w' w.heap.size l.toArray ∧ w.heap.size < w'.heap.size := by
 subst h
 exact ⟨(Below.refl _ _).alloc (Nat.le_refl _) _, Box.mk' w l t hn, (Box.mk' w l t hn).lt⟩
theorem stores_size (w : World) (B : Nat) (vs : List Value) : ∀ k, (stores w B k vs).heap.size = w.heap.size := by
 induction vs generalizing w with
 | nil => intro k; rfl
 | cons v l ih => intro k; exact (ih _ _).trans (by simp)
theorem st_step {τ : Type} {R : World → Value → τ → Prop} (hR : ∀ (l : List Value) (w : World) (B k : Nat) (cs : Array Value) (v : Value) (x : τ), R w v x → Box w B cs → NDs l → R (stores w B k l) v x)
  {w0 w w' : World} {l : List (Nat × List Value)} {B C : Nat} {cs ds : Array Value} {vs : List Value} {v0 v1 : Value} {x0 x1 : τ} (h : stores w B 0 vs = w') (hQ : QQ w0 l w) (hB : Box w B cs) (hl : vs.length = cs.size) (hn : NDs vs) (ha : Apart l B) (hle : w0.heap.size ≤ B) (hC : Box w C ds) (hne : C ≠ B) (h0 : Hid (R w v0 x0)) (h1 : Hid (R w v1 x1)) :
  QQ w0 l w' ∧ Box w' B vs.toArray ∧ Box w' C ds ∧ Hid (R w' v0 x0) ∧ Hid (R w' v1 x1) ∧ w'.heap.size = w.heap.size := by
 subst h
 exact ⟨hQ.stores ha hle, hB.stores vs hl hn, hC.stores_other hne, hid (hR _ _ _ _ _ _ _ h0.out hB hn), hid (hR _ _ _ _ _ _ _ h1.out hB hn), stores_size _ _ _ _⟩
theorem nd_E {i : Int} {s : Bool} {p q : Option Addr} {k c l d : Nat} : NDs [.int .i64 i, .bool s, .slice p k c, .slice q l d] := nd4
theorem nd_S {i j : Int} {s sz e : Bool} {p q pz qz : Option Addr} {k c l d kz cz lz dz : Nat} : NDs [.int .i64 i, .bool s, .slice p k c, .slice q l d, .int .i64 j, .bool sz, .slice pz kz cz, .slice qz lz dz, .bool e] := nd9
theorem nd_J {s sz x y e : Bool} {p q pz qz : Option Addr} {k c l d kz cz lz dz : Nat} : NDs [.bool s, .slice p k c, .slice q l d, .bool sz, .slice pz kz cz, .slice qz lz dz, .bool x, .bool y, .bool e] := nd9
def CutRd (W0 : World) (a b : Bool × Nat × Nat) (v3 v4 : Value) (wx : World) : Prop :=
 ∃ X Y s1 p1 k1 c1 q1 l1 d1 s2 p2 k2 c2 q2 l2 d2, v3 = .pointer (some ⟨X, 0, none⟩) ∧ v4 = .pointer (some ⟨Y, 0, none⟩) ∧ X ≠ Y ∧ Box wx X #[.int .i64 0, .bool s1, .slice p1 k1 c1, .slice q1 l1 d1] ∧ Box wx Y #[.int .i64 0, .bool s2, .slice p2 k2 c2, .slice q2 l2 d2] ∧ FNorm wx (.agg #[.bool s1, .slice p1 k1 c1, .slice q1 l1 d1]) a ∧ FNorm wx (.agg #[.bool s2, .slice p2 k2 c2, .slice q2 l2 d2]) b ∧ Below W0.heap.size W0 wx ∧ W0.heap.size ≤ X ∧ W0.heap.size ≤ Y
theorem readSet_ret {W : World} {B : Nat} {a0 a1 a2 a3 a4 a5 a6 a7 a8 : Value} {tm : Array Value} {R : Ending → World → Prop} (h2 : tm[2]?.getD undef = .pointer (some ⟨B, 0, none⟩)) (hV : Box W B #[a0, a1, a2, a3, a4, a5, a6, a7, a8]) (hR : R (.returned (.agg #[a0, a1, a2, a3, a4, a5, a6, a7, a8])) W) :
  bodyPost Tryz.prog Tryz.f79 R .ret { tmps := tm, defers := [] } W := by
 obtain ⟨g0, g1, g2, g3, g4, g5, g6, g7, g8, _⟩ := hV.cells9
 exact bodyPost_ret (v := .agg #[a0, a1, a2, a3, a4, a5, a6, a7, a8]) (by simp [results, Tryz.results79, go_sem, h2, g0, g1, g2, g3, g4, g5, g6, g7, g8]) rfl hR
theorem readSet_ok (s : Bool) (p : Option Addr) (k c : Nat) (q : Option Addr) (l d : Nat) (sz : Bool) (pz : Option Addr) (kz cz : Nat) (qz : Option Addr) (lz dz : Nat) (x : Bool) (y : Bool) (a b : Bool × Nat × Nat) (w : World) (ha : NRep w (.agg #[.bool s, .slice p k c, .slice q l d]) a) (hb : NRep w (.agg #[.bool sz, .slice pz kz cz, .slice qz lz dz]) b) (h1 : large a.2.1 a.2.2 = false) (h2 : large b.2.1 b.2.2 = false) (ht : TabOk w) :
  Calls Tryz.prog 79 #[.agg #[.bool s, .slice p k c, .slice q l d, .bool sz, .slice pz kz cz, .slice qz lz dz, .bool x, .bool y]] w fun e w' => ∃ i1 s1 p1 k1 c1 q1 l1 d1 j1 sz1 pz1 kz1 cz1 qz1 lz1 dz1 e1, e = .returned (.agg #[.int .i64 i1, .bool s1, .slice p1 k1 c1, .slice q1 l1 d1, .int .i64 j1, .bool sz1, .slice pz1 kz1 cz1, .slice qz1 lz1 dz1, .bool e1]) ∧ Hid (SRep w' (.agg #[.int .i64 i1, .bool s1, .slice p1 k1 c1, .slice q1 l1 d1, .int .i64 j1, .bool sz1, .slice pz1 kz1 cz1, .slice qz1 lz1 dz1, .bool e1]) (srd (a, b, x, y))) ∧ Below w.heap.size w w' := by
 have HR1 := hid (fun (W : World) (hW : Below w.heap.size w W) => read_ok (.agg #[.bool s, .slice p k c, .slice q l d]) a W (ha.below hW) h1 (ht.below hW))
 have HR2 := hid (fun (W : World) (hW : Below w.heap.size w W) => read_ok (.agg #[.bool sz, .slice pz kz cz, .slice qz lz dz]) b W (hb.below hW) h2 (ht.below hW))
 have HE1 := hid (rdE_ok (inf := x) (g := -1) (.inr rfl) h1)
 have HE2 := hid (rdE_ok (inf := y) (g := 1) (.inl rfl) h2)
 clear ha hb h1 h2 ht
 obtain ⟨r1, hr1⟩ : ∃ r, r = fr a := ⟨_, rfl⟩
 obtain ⟨r2, hr2⟩ : ∃ r, r = fr b := ⟨_, rfl⟩
 rw [← hr1] at HR1
 rw [← hr2] at HR2
 have HX := hid (And.intro hr1 hr2)
 clear hr1 hr2
 go_enter Tryz.func79, Tryz.ntmps79
 go_upto_region 1 with fail
 generalize hA : World.alloc _ _ = W0
 have HV := hid (pre2_o hA nd8 nd9)
 clear hA
 go_cut [3, 4] from 5 to 11 (fun v3 v4 wx => CutRd W0 r1 r2 v3 v4 wx)
 case first =>
  have HS := hid (fun (w' : World) (hb : QQ W0 [(w.heap.size, [.bool s, .slice p k c, .slice q l d, .bool sz, .slice pz kz cz, .slice qz lz dz, .bool x, .bool y])] w') => hb.s_8)
  have HQ := hid (QQ.i1 (cs := [.bool s, .slice p k c, .slice q l d, .bool sz, .slice pz kz cz, .slice qz lz dz, .bool x, .bool y]) HV.out.1 (Below.refl W0.heap.size W0))
  have hz0 : w.heap.size + 1 < W0.heap.size := HV.out.2.1.lt
  refine wp_region_noPanic ?_
  refine wp_region_held_drew (S := (fun w' => w'.cell? ⟨w.heap.size, 0, none⟩ = some (.bool s) ∧ w'.cell? ⟨w.heap.size, 1, none⟩ = some (.slice p k c) ∧ w'.cell? ⟨w.heap.size, 2, none⟩ = some (.slice q l d) ∧ w'.cell? ⟨w.heap.size, 3, none⟩ = some (.bool sz) ∧ w'.cell? ⟨w.heap.size, 4, none⟩ = some (.slice pz kz cz) ∧ w'.cell? ⟨w.heap.size, 5, none⟩ = some (.slice qz lz dz) ∧ w'.cell? ⟨w.heap.size, 6, none⟩ = some (.bool x) ∧ w'.cell? ⟨w.heap.size, 7, none⟩ = some (.bool y) ∧ Hid (QQ W0 [(w.heap.size, [.bool s, .slice p k c, .slice q l d, .bool sz, .slice pz kz cz, .slice qz lz dz, .bool x, .bool y])] w'))) (by kernel_rfl) (HS.out _ HQ.out.drew) (fun hHeld => ?_)
  refine wpAnyH_take (i := 0) (v := ?vv0) rfl (by kernel_rfl) (by kernel_rfl) (by kernel_rfl) (fun _ _ _ h => h) (Or.inl ⟨by rfl, ?hy0⟩) (by assumption) ?_
  case hy0 => (intro w' hSw; (try dsimp only at hSw); go_simp; first | done | with_reducible rfl)
  simp only [Act.put]
  refine wpAnyH_take (i := 1) (v := ?vv1) rfl (by kernel_rfl) (by kernel_rfl) (by kernel_rfl) (fun _ _ _ h => h) (Or.inl ⟨by rfl, ?hy1⟩) (by assumption) ?_
  case hy1 => (intro w' hSw; (try dsimp only at hSw); go_simp; first | done | with_reducible rfl)
  simp only [Act.put]
  refine wpAnyH_take (i := 3) (v := ?vv3) rfl (by kernel_rfl) (by kernel_rfl) (by kernel_rfl) (fun _ _ _ h => h) (Or.inl ⟨by rfl, ?hy3⟩) (by assumption) ?_
  case hy3 => (intro w' hSw; (try dsimp only at hSw); go_simp; first | done | with_reducible rfl)
  simp only [Act.put]
  refine wpAnyH_take (i := 4) (v := ?vv4) rfl (by kernel_rfl) (by kernel_rfl) (by kernel_rfl) (fun _ _ _ h => h) (Or.inl ⟨by rfl, ?hy4⟩) (by assumption) ?_
  case hy4 => (intro w' hSw; (try dsimp only at hSw); go_simp; first | done | with_reducible rfl)
  simp only [Act.put]
  have hQ0 := HQ.out.drew; have hz : W0.heap.size ≤ W0.drew.heap.size := Nat.le_refl _; generalize W0.drew = v0 at *
  refine wpAnyH_ready (rs := [2, 6, 7]) (by kernel_rfl) (by simp) ?_
  refine .cons rfl (fun K hK => ?_) (.cons rfl (fun K hK => ?_) (.cons rfl (fun K hK => ?_) .nil))
  ·go_simp
   go_at_call 42
   refine (HR1.out _ (HV.out.2.2.trans (hQ0.bel.mono HV.out.2.2.size))).mono ?_
   rintro e v1 ⟨s1, p1, k1, c1, q1, l1, d1, rfl, hF1, hB1⟩
   have hQ1 := hQ0.call hB1
   have hz1 : v0.heap.size ≤ v1.heap.size := hB1.size
   go_wp2_with fail
   refine hK.out _ _ (HS.out _ hQ1) (fun hHeld => ?_)
   clear hK K
   try simp only [Act.put, setIfInBounds_toArray, set_cons_zero, set_cons_succ]
   refine wpAnyH_ready (rs := [5, 6, 7]) (by kernel_rfl) (by simp) ?_
   refine .cons rfl (fun K hK => ?_) (.cons rfl (fun K hK => ?_) (.cons rfl (fun K hK => ?_) .nil))
   ·go_simp
    go_at_call 42
    refine (HR2.out _ (HV.out.2.2.trans (hQ1.bel.mono HV.out.2.2.size))).mono ?_
    rintro e v2 ⟨s2, p2, k2, c2, q2, l2, d2, rfl, hF2, hB2⟩
    have hQ2 := hQ1.call hB2
    have hz2 : v1.heap.size ≤ v2.heap.size := hB2.size
    have hG02 := hid (FNorm.below hF1.out hB2)
    go_wp2_with fail
    refine hK.out _ _ (HS.out _ hQ2) (fun hHeld => ?_)
    clear hK K
    try simp only [Act.put, setIfInBounds_toArray, set_cons_zero, set_cons_succ]
    refine wpAnyH_ready (rs := [6, 7]) (by kernel_rfl) (by simp) ?_
    refine .cons rfl (fun K hK => ?_) (.cons rfl (fun K hK => ?_) .nil)
    ·go_simp
     generalize hA3 : World.alloc _ _ = v3
     obtain ⟨hB3, hX3, hz3⟩ := al_step hA3 nd_E
     clear hA3
     have hQ3 := hQ2.call hB3
     have hG03 := hid (FNorm.below hG02.out hB3)
     have hG13 := hid (FNorm.below hF2.out hB3)
     refine hK.out _ _ (HS.out _ hQ3) (fun hHeld => ?_)
     clear hK K
     try simp only [Act.put, setIfInBounds_toArray, set_cons_zero, set_cons_succ]
     refine wpAnyH_ready (rs := [7]) (by kernel_rfl) (by simp) ?_
     refine .cons rfl (fun K hK => ?_) .nil
     ·go_simp
      generalize hA4 : World.alloc _ _ = v4
      obtain ⟨hB4, hY4, hz4⟩ := al_step hA4 nd_E
      clear hA4
      have hQ4 := hQ3.call hB4
      have hX4 := hX3.below hB4
      have hG04 := hid (FNorm.below hG03.out hB4)
      have hG14 := hid (FNorm.below hG13.out hB4)
      refine hK.out _ _ (HS.out _ hQ4) (fun hHeld => ?_)
      clear hK K
      try simp only [Act.put, setIfInBounds_toArray, set_cons_zero, set_cons_succ]
      refine wpAnyH_ready (rs := [8]) (by kernel_rfl) (by simp) ?_
      refine .cons rfl (fun K hK => ?_) .nil
      ·obtain ⟨g5_0, g5_1, g5_2, g5_3, g5_4, g5_5, g5_6, g5_7⟩ := hX4.cells4
       go_simp
       generalize hW5 : World.setCell _ _ _ = v5
       obtain ⟨hQ5, hX5, hY5, hG05, hG15, hz5⟩ := st_step (R := FNorm) (fun _ _ _ _ _ _ _ => FNorm.stores) (w := v4) (B := v2.heap.size) (vs := [.int .i64 0, .bool s1, .slice p1 k1 c1, .slice q1 l1 d1]) hW5 hQ4 hX4 rfl nd_E (ne1 (by omega)) (by omega) hY4 (by omega) hG04 hG14
       clear hW5
       refine hK.out _ _ (HS.out _ hQ5) (fun hHeld => ?_)
       clear hK K
       try simp only [Act.put, setIfInBounds_toArray, set_cons_zero, set_cons_succ]
       refine wpAnyH_ready (rs := [9]) (by kernel_rfl) (by simp) ?_
       refine .cons rfl (fun K hK => ?_) .nil
       ·obtain ⟨g6_0, g6_1, g6_2, g6_3, g6_4, g6_5, g6_6, g6_7⟩ := hY5.cells4
        go_simp
        generalize hW6 : World.setCell _ _ _ = v6
        obtain ⟨hQ6, hY6, hX6, hG06, hG16, hz6⟩ := st_step (R := FNorm) (fun _ _ _ _ _ _ _ => FNorm.stores) (w := v5) (B := v3.heap.size) (vs := [.int .i64 0, .bool s2, .slice p2 k2 c2, .slice q2 l2 d2]) hW6 hQ5 hY5 rfl nd_E (ne1 (by omega)) (by omega) hX5 (by omega) hG05 hG15
        clear hW6
        refine hK.out _ _ (HS.out _ hQ6) (fun hHeld => ?_)
        clear hK K
        try simp only [Act.put, setIfInBounds_toArray, set_cons_zero, set_cons_succ]
        refine wpAnyH_done (by kernel_rfl) (NoPanic.normal ?_) _
        go_wp2_with fail
        go_meet
        exact ⟨v2.heap.size, v3.heap.size, s1, p1, k1, c1, q1, l1, d1, s2, p2, k2, c2, q2, l2, d2, rfl, rfl, by omega, hX6, hY6, hG06.out, hG16.out, hQ6.bel, by omega, by omega⟩
    ·go_simp
     generalize hA7 : World.alloc _ _ = v7
     obtain ⟨hB7, hY7, hz7⟩ := al_step hA7 nd_E
     clear hA7
     have hQ7 := hQ2.call hB7
     have hG07 := hid (FNorm.below hG02.out hB7)
     have hG17 := hid (FNorm.below hF2.out hB7)
     refine hK.out _ _ (HS.out _ hQ7) (fun hHeld => ?_)
     clear hK K
     try simp only [Act.put, setIfInBounds_toArray, set_cons_zero, set_cons_succ]
     refine wpAnyH_ready (rs := [6]) (by kernel_rfl) (by simp) ?_
     refine .cons rfl (fun K hK => ?_) .nil
     ·go_simp
      generalize hA8 : World.alloc _ _ = v8
      obtain ⟨hB8, hX8, hz8⟩ := al_step hA8 nd_E
      clear hA8
      have hQ8 := hQ7.call hB8
      have hY8 := hY7.below hB8
      have hG08 := hid (FNorm.below hG07.out hB8)
      have hG18 := hid (FNorm.below hG17.out hB8)
      refine hK.out _ _ (HS.out _ hQ8) (fun hHeld => ?_)
      clear hK K
      try simp only [Act.put, setIfInBounds_toArray, set_cons_zero, set_cons_succ]
      refine wpAnyH_ready (rs := [8]) (by kernel_rfl) (by simp) ?_
      refine .cons rfl (fun K hK => ?_) .nil
      ·obtain ⟨g9_0, g9_1, g9_2, g9_3, g9_4, g9_5, g9_6, g9_7⟩ := hX8.cells4
       go_simp
       generalize hW9 : World.setCell _ _ _ = v9
       obtain ⟨hQ9, hX9, hY9, hG09, hG19, hz9⟩ := st_step (R := FNorm) (fun _ _ _ _ _ _ _ => FNorm.stores) (w := v8) (B := v7.heap.size) (vs := [.int .i64 0, .bool s1, .slice p1 k1 c1, .slice q1 l1 d1]) hW9 hQ8 hX8 rfl nd_E (ne1 (by omega)) (by omega) hY8 (by omega) hG08 hG18
       clear hW9
       refine hK.out _ _ (HS.out _ hQ9) (fun hHeld => ?_)
       clear hK K
       try simp only [Act.put, setIfInBounds_toArray, set_cons_zero, set_cons_succ]
       refine wpAnyH_ready (rs := [9]) (by kernel_rfl) (by simp) ?_
       refine .cons rfl (fun K hK => ?_) .nil
       ·obtain ⟨g10_0, g10_1, g10_2, g10_3, g10_4, g10_5, g10_6, g10_7⟩ := hY9.cells4
        go_simp
        generalize hW10 : World.setCell _ _ _ = v10
        obtain ⟨hQ10, hY10, hX10, hG010, hG110, hz10⟩ := st_step (R := FNorm) (fun _ _ _ _ _ _ _ => FNorm.stores) (w := v9) (B := v2.heap.size) (vs := [.int .i64 0, .bool s2, .slice p2 k2 c2, .slice q2 l2 d2]) hW10 hQ9 hY9 rfl nd_E (ne1 (by omega)) (by omega) hX9 (by omega) hG09 hG19
        clear hW10
        refine hK.out _ _ (HS.out _ hQ10) (fun hHeld => ?_)
        clear hK K
        try simp only [Act.put, setIfInBounds_toArray, set_cons_zero, set_cons_succ]
        refine wpAnyH_done (by kernel_rfl) (NoPanic.normal ?_) _
        go_wp2_with fail
        go_meet
        exact ⟨v7.heap.size, v2.heap.size, s1, p1, k1, c1, q1, l1, d1, s2, p2, k2, c2, q2, l2, d2, rfl, rfl, by omega, hX10, hY10, hG010.out, hG110.out, hQ10.bel, by omega, by omega⟩
   ·go_simp
    generalize hA11 : World.alloc _ _ = v11
    obtain ⟨hB11, hX11, hz11⟩ := al_step hA11 nd_E
    clear hA11
    have hQ11 := hQ1.call hB11
    have hG011 := hid (FNorm.below hF1.out hB11)
    refine hK.out _ _ (HS.out _ hQ11) (fun hHeld => ?_)
    clear hK K
    try simp only [Act.put, setIfInBounds_toArray, set_cons_zero, set_cons_succ]
    refine wpAnyH_ready (rs := [5, 7]) (by kernel_rfl) (by simp) ?_
    refine .cons rfl (fun K hK => ?_) (.cons rfl (fun K hK => ?_) .nil)
    ·go_simp
     go_at_call 42
     refine (HR2.out _ (HV.out.2.2.trans (hQ11.bel.mono HV.out.2.2.size))).mono ?_
     rintro e v12 ⟨s2, p2, k2, c2, q2, l2, d2, rfl, hF12, hB12⟩
     have hQ12 := hQ11.call hB12
     have hz12 : v11.heap.size ≤ v12.heap.size := hB12.size
     have hX12 := hX11.below hB12
     have hG012 := hid (FNorm.below hG011.out hB12)
     go_wp2_with fail
     refine hK.out _ _ (HS.out _ hQ12) (fun hHeld => ?_)
     clear hK K
     try simp only [Act.put, setIfInBounds_toArray, set_cons_zero, set_cons_succ]
     refine wpAnyH_ready (rs := [7]) (by kernel_rfl) (by simp) ?_
     refine .cons rfl (fun K hK => ?_) .nil
     ·go_simp
      generalize hA13 : World.alloc _ _ = v13
      obtain ⟨hB13, hY13, hz13⟩ := al_step hA13 nd_E
      clear hA13
      have hQ13 := hQ12.call hB13
      have hX13 := hX12.below hB13
      have hG013 := hid (FNorm.below hG012.out hB13)
      have hG113 := hid (FNorm.below hF12.out hB13)
      refine hK.out _ _ (HS.out _ hQ13) (fun hHeld => ?_)
      clear hK K
      try simp only [Act.put, setIfInBounds_toArray, set_cons_zero, set_cons_succ]
      refine wpAnyH_ready (rs := [8]) (by kernel_rfl) (by simp) ?_
      refine .cons rfl (fun K hK => ?_) .nil
      ·obtain ⟨g14_0, g14_1, g14_2, g14_3, g14_4, g14_5, g14_6, g14_7⟩ := hX13.cells4
       go_simp
       generalize hW14 : World.setCell _ _ _ = v14
       obtain ⟨hQ14, hX14, hY14, hG014, hG114, hz14⟩ := st_step (R := FNorm) (fun _ _ _ _ _ _ _ => FNorm.stores) (w := v13) (B := v1.heap.size) (vs := [.int .i64 0, .bool s1, .slice p1 k1 c1, .slice q1 l1 d1]) hW14 hQ13 hX13 rfl nd_E (ne1 (by omega)) (by omega) hY13 (by omega) hG013 hG113
       clear hW14
       refine hK.out _ _ (HS.out _ hQ14) (fun hHeld => ?_)
       clear hK K
       try simp only [Act.put, setIfInBounds_toArray, set_cons_zero, set_cons_succ]
       refine wpAnyH_ready (rs := [9]) (by kernel_rfl) (by simp) ?_
       refine .cons rfl (fun K hK => ?_) .nil
       ·obtain ⟨g15_0, g15_1, g15_2, g15_3, g15_4, g15_5, g15_6, g15_7⟩ := hY14.cells4
        go_simp
        generalize hW15 : World.setCell _ _ _ = v15
        obtain ⟨hQ15, hY15, hX15, hG015, hG115, hz15⟩ := st_step (R := FNorm) (fun _ _ _ _ _ _ _ => FNorm.stores) (w := v14) (B := v12.heap.size) (vs := [.int .i64 0, .bool s2, .slice p2 k2 c2, .slice q2 l2 d2]) hW15 hQ14 hY14 rfl nd_E (ne1 (by omega)) (by omega) hX14 (by omega) hG014 hG114
        clear hW15
        refine hK.out _ _ (HS.out _ hQ15) (fun hHeld => ?_)
        clear hK K
        try simp only [Act.put, setIfInBounds_toArray, set_cons_zero, set_cons_succ]
        refine wpAnyH_done (by kernel_rfl) (NoPanic.normal ?_) _
        go_wp2_with fail
        go_meet
        exact ⟨v1.heap.size, v12.heap.size, s1, p1, k1, c1, q1, l1, d1, s2, p2, k2, c2, q2, l2, d2, rfl, rfl, by omega, hX15, hY15, hG015.out, hG115.out, hQ15.bel, by omega, by omega⟩
    ·go_simp
     generalize hA16 : World.alloc _ _ = v16
     obtain ⟨hB16, hY16, hz16⟩ := al_step hA16 nd_E
     clear hA16
     have hQ16 := hQ11.call hB16
     have hX16 := hX11.below hB16
     have hG016 := hid (FNorm.below hG011.out hB16)
     refine hK.out _ _ (HS.out _ hQ16) (fun hHeld => ?_)
     clear hK K
     try simp only [Act.put, setIfInBounds_toArray, set_cons_zero, set_cons_succ]
     refine wpAnyH_ready (rs := [5]) (by kernel_rfl) (by simp) ?_
     refine .cons rfl (fun K hK => ?_) .nil
     ·go_simp
      go_at_call 42
      refine (HR2.out _ (HV.out.2.2.trans (hQ16.bel.mono HV.out.2.2.size))).mono ?_
      rintro e v17 ⟨s2, p2, k2, c2, q2, l2, d2, rfl, hF17, hB17⟩
      have hQ17 := hQ16.call hB17
      have hz17 : v16.heap.size ≤ v17.heap.size := hB17.size
      have hX17 := hX16.below hB17
      have hY17 := hY16.below hB17
      have hG017 := hid (FNorm.below hG016.out hB17)
      go_wp2_with fail
      refine hK.out _ _ (HS.out _ hQ17) (fun hHeld => ?_)
      clear hK K
      try simp only [Act.put, setIfInBounds_toArray, set_cons_zero, set_cons_succ]
      refine wpAnyH_ready (rs := [8]) (by kernel_rfl) (by simp) ?_
      refine .cons rfl (fun K hK => ?_) .nil
      ·obtain ⟨g18_0, g18_1, g18_2, g18_3, g18_4, g18_5, g18_6, g18_7⟩ := hX17.cells4
       go_simp
       generalize hW18 : World.setCell _ _ _ = v18
       obtain ⟨hQ18, hX18, hY18, hG018, hG118, hz18⟩ := st_step (R := FNorm) (fun _ _ _ _ _ _ _ => FNorm.stores) (w := v17) (B := v1.heap.size) (vs := [.int .i64 0, .bool s1, .slice p1 k1 c1, .slice q1 l1 d1]) hW18 hQ17 hX17 rfl nd_E (ne1 (by omega)) (by omega) hY17 (by omega) hG017 hF17
       clear hW18
       refine hK.out _ _ (HS.out _ hQ18) (fun hHeld => ?_)
       clear hK K
       try simp only [Act.put, setIfInBounds_toArray, set_cons_zero, set_cons_succ]
       refine wpAnyH_ready (rs := [9]) (by kernel_rfl) (by simp) ?_
       refine .cons rfl (fun K hK => ?_) .nil
       ·obtain ⟨g19_0, g19_1, g19_2, g19_3, g19_4, g19_5, g19_6, g19_7⟩ := hY18.cells4
        go_simp
        generalize hW19 : World.setCell _ _ _ = v19
        obtain ⟨hQ19, hY19, hX19, hG019, hG119, hz19⟩ := st_step (R := FNorm) (fun _ _ _ _ _ _ _ => FNorm.stores) (w := v18) (B := v11.heap.size) (vs := [.int .i64 0, .bool s2, .slice p2 k2 c2, .slice q2 l2 d2]) hW19 hQ18 hY18 rfl nd_E (ne1 (by omega)) (by omega) hX18 (by omega) hG018 hG118
        clear hW19
        refine hK.out _ _ (HS.out _ hQ19) (fun hHeld => ?_)
        clear hK K
        try simp only [Act.put, setIfInBounds_toArray, set_cons_zero, set_cons_succ]
        refine wpAnyH_done (by kernel_rfl) (NoPanic.normal ?_) _
        go_wp2_with fail
        go_meet
        exact ⟨v1.heap.size, v11.heap.size, s1, p1, k1, c1, q1, l1, d1, s2, p2, k2, c2, q2, l2, d2, rfl, rfl, by omega, hX19, hY19, hG019.out, hG119.out, hQ19.bel, by omega, by omega⟩
   ·go_simp
    generalize hA20 : World.alloc _ _ = v20
    obtain ⟨hB20, hY20, hz20⟩ := al_step hA20 nd_E
    clear hA20
    have hQ20 := hQ1.call hB20
    have hG020 := hid (FNorm.below hF1.out hB20)
    refine hK.out _ _ (HS.out _ hQ20) (fun hHeld => ?_)
    clear hK K
    try simp only [Act.put, setIfInBounds_toArray, set_cons_zero, set_cons_succ]
    refine wpAnyH_ready (rs := [5, 6]) (by kernel_rfl) (by simp) ?_
    refine .cons rfl (fun K hK => ?_) (.cons rfl (fun K hK => ?_) .nil)
    ·go_simp
     go_at_call 42
     refine (HR2.out _ (HV.out.2.2.trans (hQ20.bel.mono HV.out.2.2.size))).mono ?_
     rintro e v21 ⟨s2, p2, k2, c2, q2, l2, d2, rfl, hF21, hB21⟩
     have hQ21 := hQ20.call hB21
     have hz21 : v20.heap.size ≤ v21.heap.size := hB21.size
     have hY21 := hY20.below hB21
     have hG021 := hid (FNorm.below hG020.out hB21)
     go_wp2_with fail
     refine hK.out _ _ (HS.out _ hQ21) (fun hHeld => ?_)
     clear hK K
     try simp only [Act.put, setIfInBounds_toArray, set_cons_zero, set_cons_succ]
     refine wpAnyH_ready (rs := [6]) (by kernel_rfl) (by simp) ?_
     refine .cons rfl (fun K hK => ?_) .nil
     ·go_simp
      generalize hA22 : World.alloc _ _ = v22
      obtain ⟨hB22, hX22, hz22⟩ := al_step hA22 nd_E
      clear hA22
      have hQ22 := hQ21.call hB22
      have hY22 := hY21.below hB22
      have hG022 := hid (FNorm.below hG021.out hB22)
      have hG122 := hid (FNorm.below hF21.out hB22)
      refine hK.out _ _ (HS.out _ hQ22) (fun hHeld => ?_)
      clear hK K
      try simp only [Act.put, setIfInBounds_toArray, set_cons_zero, set_cons_succ]
      refine wpAnyH_ready (rs := [8]) (by kernel_rfl) (by simp) ?_
      refine .cons rfl (fun K hK => ?_) .nil
      ·obtain ⟨g23_0, g23_1, g23_2, g23_3, g23_4, g23_5, g23_6, g23_7⟩ := hX22.cells4
       go_simp
       generalize hW23 : World.setCell _ _ _ = v23
       obtain ⟨hQ23, hX23, hY23, hG023, hG123, hz23⟩ := st_step (R := FNorm) (fun _ _ _ _ _ _ _ => FNorm.stores) (w := v22) (B := v21.heap.size) (vs := [.int .i64 0, .bool s1, .slice p1 k1 c1, .slice q1 l1 d1]) hW23 hQ22 hX22 rfl nd_E (ne1 (by omega)) (by omega) hY22 (by omega) hG022 hG122
       clear hW23
       refine hK.out _ _ (HS.out _ hQ23) (fun hHeld => ?_)
       clear hK K
       try simp only [Act.put, setIfInBounds_toArray, set_cons_zero, set_cons_succ]
       refine wpAnyH_ready (rs := [9]) (by kernel_rfl) (by simp) ?_
       refine .cons rfl (fun K hK => ?_) .nil
       ·obtain ⟨g24_0, g24_1, g24_2, g24_3, g24_4, g24_5, g24_6, g24_7⟩ := hY23.cells4
        go_simp
        generalize hW24 : World.setCell _ _ _ = v24
        obtain ⟨hQ24, hY24, hX24, hG024, hG124, hz24⟩ := st_step (R := FNorm) (fun _ _ _ _ _ _ _ => FNorm.stores) (w := v23) (B := v1.heap.size) (vs := [.int .i64 0, .bool s2, .slice p2 k2 c2, .slice q2 l2 d2]) hW24 hQ23 hY23 rfl nd_E (ne1 (by omega)) (by omega) hX23 (by omega) hG023 hG123
        clear hW24
        refine hK.out _ _ (HS.out _ hQ24) (fun hHeld => ?_)
        clear hK K
        try simp only [Act.put, setIfInBounds_toArray, set_cons_zero, set_cons_succ]
        refine wpAnyH_done (by kernel_rfl) (NoPanic.normal ?_) _
        go_wp2_with fail
        go_meet
        exact ⟨v21.heap.size, v1.heap.size, s1, p1, k1, c1, q1, l1, d1, s2, p2, k2, c2, q2, l2, d2, rfl, rfl, by omega, hX24, hY24, hG024.out, hG124.out, hQ24.bel, by omega, by omega⟩
    ·go_simp
     generalize hA25 : World.alloc _ _ = v25
     obtain ⟨hB25, hX25, hz25⟩ := al_step hA25 nd_E
     clear hA25
     have hQ25 := hQ20.call hB25
     have hY25 := hY20.below hB25
     have hG025 := hid (FNorm.below hG020.out hB25)
     refine hK.out _ _ (HS.out _ hQ25) (fun hHeld => ?_)
     clear hK K
     try simp only [Act.put, setIfInBounds_toArray, set_cons_zero, set_cons_succ]
     refine wpAnyH_ready (rs := [5]) (by kernel_rfl) (by simp) ?_
     refine .cons rfl (fun K hK => ?_) .nil
     ·go_simp
      go_at_call 42
      refine (HR2.out _ (HV.out.2.2.trans (hQ25.bel.mono HV.out.2.2.size))).mono ?_
      rintro e v26 ⟨s2, p2, k2, c2, q2, l2, d2, rfl, hF26, hB26⟩
      have hQ26 := hQ25.call hB26
      have hz26 : v25.heap.size ≤ v26.heap.size := hB26.size
      have hY26 := hY25.below hB26
      have hX26 := hX25.below hB26
      have hG026 := hid (FNorm.below hG025.out hB26)
      go_wp2_with fail
      refine hK.out _ _ (HS.out _ hQ26) (fun hHeld => ?_)
      clear hK K
      try simp only [Act.put, setIfInBounds_toArray, set_cons_zero, set_cons_succ]
      refine wpAnyH_ready (rs := [8]) (by kernel_rfl) (by simp) ?_
      refine .cons rfl (fun K hK => ?_) .nil
      ·obtain ⟨g27_0, g27_1, g27_2, g27_3, g27_4, g27_5, g27_6, g27_7⟩ := hX26.cells4
       go_simp
       generalize hW27 : World.setCell _ _ _ = v27
       obtain ⟨hQ27, hX27, hY27, hG027, hG127, hz27⟩ := st_step (R := FNorm) (fun _ _ _ _ _ _ _ => FNorm.stores) (w := v26) (B := v20.heap.size) (vs := [.int .i64 0, .bool s1, .slice p1 k1 c1, .slice q1 l1 d1]) hW27 hQ26 hX26 rfl nd_E (ne1 (by omega)) (by omega) hY26 (by omega) hG026 hF26
       clear hW27
       refine hK.out _ _ (HS.out _ hQ27) (fun hHeld => ?_)
       clear hK K
       try simp only [Act.put, setIfInBounds_toArray, set_cons_zero, set_cons_succ]
       refine wpAnyH_ready (rs := [9]) (by kernel_rfl) (by simp) ?_
       refine .cons rfl (fun K hK => ?_) .nil
       ·obtain ⟨g28_0, g28_1, g28_2, g28_3, g28_4, g28_5, g28_6, g28_7⟩ := hY27.cells4
        go_simp
        generalize hW28 : World.setCell _ _ _ = v28
        obtain ⟨hQ28, hY28, hX28, hG028, hG128, hz28⟩ := st_step (R := FNorm) (fun _ _ _ _ _ _ _ => FNorm.stores) (w := v27) (B := v1.heap.size) (vs := [.int .i64 0, .bool s2, .slice p2 k2 c2, .slice q2 l2 d2]) hW28 hQ27 hY27 rfl nd_E (ne1 (by omega)) (by omega) hX27 (by omega) hG027 hG127
        clear hW28
        refine hK.out _ _ (HS.out _ hQ28) (fun hHeld => ?_)
        clear hK K
        try simp only [Act.put, setIfInBounds_toArray, set_cons_zero, set_cons_succ]
        refine wpAnyH_done (by kernel_rfl) (NoPanic.normal ?_) _
        go_wp2_with fail
        go_meet
        exact ⟨v20.heap.size, v1.heap.size, s1, p1, k1, c1, q1, l1, d1, s2, p2, k2, c2, q2, l2, d2, rfl, rfl, by omega, hX28, hY28, hG028.out, hG128.out, hQ28.bel, by omega, by omega⟩
  ·go_simp
   generalize hA29 : World.alloc _ _ = v29
   obtain ⟨hB29, hX29, hz29⟩ := al_step hA29 nd_E
   clear hA29
   have hQ29 := hQ0.call hB29
   refine hK.out _ _ (HS.out _ hQ29) (fun hHeld => ?_)
   clear hK K
   try simp only [Act.put, setIfInBounds_toArray, set_cons_zero, set_cons_succ]
   refine wpAnyH_ready (rs := [2, 7]) (by kernel_rfl) (by simp) ?_
   refine .cons rfl (fun K hK => ?_) (.cons rfl (fun K hK => ?_) .nil)
   ·go_simp
    go_at_call 42
    refine (HR1.out _ (HV.out.2.2.trans (hQ29.bel.mono HV.out.2.2.size))).mono ?_
    rintro e v30 ⟨s1, p1, k1, c1, q1, l1, d1, rfl, hF30, hB30⟩
    have hQ30 := hQ29.call hB30
    have hz30 : v29.heap.size ≤ v30.heap.size := hB30.size
    have hX30 := hX29.below hB30
    go_wp2_with fail
    refine hK.out _ _ (HS.out _ hQ30) (fun hHeld => ?_)
    clear hK K
    try simp only [Act.put, setIfInBounds_toArray, set_cons_zero, set_cons_succ]
    refine wpAnyH_ready (rs := [5, 7]) (by kernel_rfl) (by simp) ?_
    refine .cons rfl (fun K hK => ?_) (.cons rfl (fun K hK => ?_) .nil)
    ·go_simp
     go_at_call 42
     refine (HR2.out _ (HV.out.2.2.trans (hQ30.bel.mono HV.out.2.2.size))).mono ?_
     rintro e v31 ⟨s2, p2, k2, c2, q2, l2, d2, rfl, hF31, hB31⟩
     have hQ31 := hQ30.call hB31
     have hz31 : v30.heap.size ≤ v31.heap.size := hB31.size
     have hX31 := hX30.below hB31
     have hG031 := hid (FNorm.below hF30.out hB31)
     go_wp2_with fail
     refine hK.out _ _ (HS.out _ hQ31) (fun hHeld => ?_)
     clear hK K
     try simp only [Act.put, setIfInBounds_toArray, set_cons_zero, set_cons_succ]
     refine wpAnyH_ready (rs := [7]) (by kernel_rfl) (by simp) ?_
     refine .cons rfl (fun K hK => ?_) .nil
     ·go_simp
      generalize hA32 : World.alloc _ _ = v32
      obtain ⟨hB32, hY32, hz32⟩ := al_step hA32 nd_E
      clear hA32
      have hQ32 := hQ31.call hB32
      have hX32 := hX31.below hB32
      have hG032 := hid (FNorm.below hG031.out hB32)
      have hG132 := hid (FNorm.below hF31.out hB32)
      refine hK.out _ _ (HS.out _ hQ32) (fun hHeld => ?_)
      clear hK K
      try simp only [Act.put, setIfInBounds_toArray, set_cons_zero, set_cons_succ]
      refine wpAnyH_ready (rs := [8]) (by kernel_rfl) (by simp) ?_
      refine .cons rfl (fun K hK => ?_) .nil
      ·obtain ⟨g33_0, g33_1, g33_2, g33_3, g33_4, g33_5, g33_6, g33_7⟩ := hX32.cells4
       go_simp
       generalize hW33 : World.setCell _ _ _ = v33
       obtain ⟨hQ33, hX33, hY33, hG033, hG133, hz33⟩ := st_step (R := FNorm) (fun _ _ _ _ _ _ _ => FNorm.stores) (w := v32) (B := v0.heap.size) (vs := [.int .i64 0, .bool s1, .slice p1 k1 c1, .slice q1 l1 d1]) hW33 hQ32 hX32 rfl nd_E (ne1 (by omega)) (by omega) hY32 (by omega) hG032 hG132
       clear hW33
       refine hK.out _ _ (HS.out _ hQ33) (fun hHeld => ?_)
       clear hK K
       try simp only [Act.put, setIfInBounds_toArray, set_cons_zero, set_cons_succ]
       refine wpAnyH_ready (rs := [9]) (by kernel_rfl) (by simp) ?_
       refine .cons rfl (fun K hK => ?_) .nil
       ·obtain ⟨g34_0, g34_1, g34_2, g34_3, g34_4, g34_5, g34_6, g34_7⟩ := hY33.cells4
        go_simp
        generalize hW34 : World.setCell _ _ _ = v34
        obtain ⟨hQ34, hY34, hX34, hG034, hG134, hz34⟩ := st_step (R := FNorm) (fun _ _ _ _ _ _ _ => FNorm.stores) (w := v33) (B := v31.heap.size) (vs := [.int .i64 0, .bool s2, .slice p2 k2 c2, .slice q2 l2 d2]) hW34 hQ33 hY33 rfl nd_E (ne1 (by omega)) (by omega) hX33 (by omega) hG033 hG133
        clear hW34
        refine hK.out _ _ (HS.out _ hQ34) (fun hHeld => ?_)
        clear hK K
        try simp only [Act.put, setIfInBounds_toArray, set_cons_zero, set_cons_succ]
        refine wpAnyH_done (by kernel_rfl) (NoPanic.normal ?_) _
        go_wp2_with fail
        go_meet
        exact ⟨v0.heap.size, v31.heap.size, s1, p1, k1, c1, q1, l1, d1, s2, p2, k2, c2, q2, l2, d2, rfl, rfl, by omega, hX34, hY34, hG034.out, hG134.out, hQ34.bel, by omega, by omega⟩
    ·go_simp
     generalize hA35 : World.alloc _ _ = v35
     obtain ⟨hB35, hY35, hz35⟩ := al_step hA35 nd_E
     clear hA35
     have hQ35 := hQ30.call hB35
     have hX35 := hX30.below hB35
     have hG035 := hid (FNorm.below hF30.out hB35)
     refine hK.out _ _ (HS.out _ hQ35) (fun hHeld => ?_)
     clear hK K
     try simp only [Act.put, setIfInBounds_toArray, set_cons_zero, set_cons_succ]
     refine wpAnyH_ready (rs := [5]) (by kernel_rfl) (by simp) ?_
     refine .cons rfl (fun K hK => ?_) .nil
     ·go_simp
      go_at_call 42
      refine (HR2.out _ (HV.out.2.2.trans (hQ35.bel.mono HV.out.2.2.size))).mono ?_
      rintro e v36 ⟨s2, p2, k2, c2, q2, l2, d2, rfl, hF36, hB36⟩
      have hQ36 := hQ35.call hB36
      have hz36 : v35.heap.size ≤ v36.heap.size := hB36.size
      have hX36 := hX35.below hB36
      have hY36 := hY35.below hB36
      have hG036 := hid (FNorm.below hG035.out hB36)
      go_wp2_with fail
      refine hK.out _ _ (HS.out _ hQ36) (fun hHeld => ?_)
      clear hK K
      try simp only [Act.put, setIfInBounds_toArray, set_cons_zero, set_cons_succ]
      refine wpAnyH_ready (rs := [8]) (by kernel_rfl) (by simp) ?_
      refine .cons rfl (fun K hK => ?_) .nil
      ·obtain ⟨g37_0, g37_1, g37_2, g37_3, g37_4, g37_5, g37_6, g37_7⟩ := hX36.cells4
       go_simp
       generalize hW37 : World.setCell _ _ _ = v37
       obtain ⟨hQ37, hX37, hY37, hG037, hG137, hz37⟩ := st_step (R := FNorm) (fun _ _ _ _ _ _ _ => FNorm.stores) (w := v36) (B := v0.heap.size) (vs := [.int .i64 0, .bool s1, .slice p1 k1 c1, .slice q1 l1 d1]) hW37 hQ36 hX36 rfl nd_E (ne1 (by omega)) (by omega) hY36 (by omega) hG036 hF36
       clear hW37
       refine hK.out _ _ (HS.out _ hQ37) (fun hHeld => ?_)
       clear hK K
       try simp only [Act.put, setIfInBounds_toArray, set_cons_zero, set_cons_succ]
       refine wpAnyH_ready (rs := [9]) (by kernel_rfl) (by simp) ?_
       refine .cons rfl (fun K hK => ?_) .nil
       ·obtain ⟨g38_0, g38_1, g38_2, g38_3, g38_4, g38_5, g38_6, g38_7⟩ := hY37.cells4
        go_simp
        generalize hW38 : World.setCell _ _ _ = v38
        obtain ⟨hQ38, hY38, hX38, hG038, hG138, hz38⟩ := st_step (R := FNorm) (fun _ _ _ _ _ _ _ => FNorm.stores) (w := v37) (B := v30.heap.size) (vs := [.int .i64 0, .bool s2, .slice p2 k2 c2, .slice q2 l2 d2]) hW38 hQ37 hY37 rfl nd_E (ne1 (by omega)) (by omega) hX37 (by omega) hG037 hG137
        clear hW38
        refine hK.out _ _ (HS.out _ hQ38) (fun hHeld => ?_)
        clear hK K
        try simp only [Act.put, setIfInBounds_toArray, set_cons_zero, set_cons_succ]
        refine wpAnyH_done (by kernel_rfl) (NoPanic.normal ?_) _
        go_wp2_with fail
        go_meet
        exact ⟨v0.heap.size, v30.heap.size, s1, p1, k1, c1, q1, l1, d1, s2, p2, k2, c2, q2, l2, d2, rfl, rfl, by omega, hX38, hY38, hG038.out, hG138.out, hQ38.bel, by omega, by omega⟩
   ·go_simp
    generalize hA39 : World.alloc _ _ = v39
    obtain ⟨hB39, hY39, hz39⟩ := al_step hA39 nd_E
    clear hA39
    have hQ39 := hQ29.call hB39
    have hX39 := hX29.below hB39
    refine hK.out _ _ (HS.out _ hQ39) (fun hHeld => ?_)
    clear hK K
    try simp only [Act.put, setIfInBounds_toArray, set_cons_zero, set_cons_succ]
    refine wpAnyH_ready (rs := [2]) (by kernel_rfl) (by simp) ?_
    refine .cons rfl (fun K hK => ?_) .nil
    ·go_simp
     go_at_call 42
     refine (HR1.out _ (HV.out.2.2.trans (hQ39.bel.mono HV.out.2.2.size))).mono ?_
     rintro e v40 ⟨s1, p1, k1, c1, q1, l1, d1, rfl, hF40, hB40⟩
     have hQ40 := hQ39.call hB40
     have hz40 : v39.heap.size ≤ v40.heap.size := hB40.size
     have hX40 := hX39.below hB40
     have hY40 := hY39.below hB40
     go_wp2_with fail
     refine hK.out _ _ (HS.out _ hQ40) (fun hHeld => ?_)
     clear hK K
     try simp only [Act.put, setIfInBounds_toArray, set_cons_zero, set_cons_succ]
     refine wpAnyH_ready (rs := [5]) (by kernel_rfl) (by simp) ?_
     refine .cons rfl (fun K hK => ?_) .nil
     ·go_simp
      go_at_call 42
      refine (HR2.out _ (HV.out.2.2.trans (hQ40.bel.mono HV.out.2.2.size))).mono ?_
      rintro e v41 ⟨s2, p2, k2, c2, q2, l2, d2, rfl, hF41, hB41⟩
      have hQ41 := hQ40.call hB41
      have hz41 : v40.heap.size ≤ v41.heap.size := hB41.size
      have hX41 := hX40.below hB41
      have hY41 := hY40.below hB41
      have hG041 := hid (FNorm.below hF40.out hB41)
      go_wp2_with fail
      refine hK.out _ _ (HS.out _ hQ41) (fun hHeld => ?_)
      clear hK K
      try simp only [Act.put, setIfInBounds_toArray, set_cons_zero, set_cons_succ]
      refine wpAnyH_ready (rs := [8]) (by kernel_rfl) (by simp) ?_
      refine .cons rfl (fun K hK => ?_) .nil
      ·obtain ⟨g42_0, g42_1, g42_2, g42_3, g42_4, g42_5, g42_6, g42_7⟩ := hX41.cells4
       go_simp
       generalize hW42 : World.setCell _ _ _ = v42
       obtain ⟨hQ42, hX42, hY42, hG042, hG142, hz42⟩ := st_step (R := FNorm) (fun _ _ _ _ _ _ _ => FNorm.stores) (w := v41) (B := v0.heap.size) (vs := [.int .i64 0, .bool s1, .slice p1 k1 c1, .slice q1 l1 d1]) hW42 hQ41 hX41 rfl nd_E (ne1 (by omega)) (by omega) hY41 (by omega) hG041 hF41
       clear hW42
       refine hK.out _ _ (HS.out _ hQ42) (fun hHeld => ?_)
       clear hK K
       try simp only [Act.put, setIfInBounds_toArray, set_cons_zero, set_cons_succ]
       refine wpAnyH_ready (rs := [9]) (by kernel_rfl) (by simp) ?_
       refine .cons rfl (fun K hK => ?_) .nil
       ·obtain ⟨g43_0, g43_1, g43_2, g43_3, g43_4, g43_5, g43_6, g43_7⟩ := hY42.cells4
        go_simp
        generalize hW43 : World.setCell _ _ _ = v43
        obtain ⟨hQ43, hY43, hX43, hG043, hG143, hz43⟩ := st_step (R := FNorm) (fun _ _ _ _ _ _ _ => FNorm.stores) (w := v42) (B := v29.heap.size) (vs := [.int .i64 0, .bool s2, .slice p2 k2 c2, .slice q2 l2 d2]) hW43 hQ42 hY42 rfl nd_E (ne1 (by omega)) (by omega) hX42 (by omega) hG042 hG142
        clear hW43
        refine hK.out _ _ (HS.out _ hQ43) (fun hHeld => ?_)
        clear hK K
        try simp only [Act.put, setIfInBounds_toArray, set_cons_zero, set_cons_succ]
        refine wpAnyH_done (by kernel_rfl) (NoPanic.normal ?_) _
        go_wp2_with fail
        go_meet
        exact ⟨v0.heap.size, v29.heap.size, s1, p1, k1, c1, q1, l1, d1, s2, p2, k2, c2, q2, l2, d2, rfl, rfl, by omega, hX43, hY43, hG043.out, hG143.out, hQ43.bel, by omega, by omega⟩
  ·go_simp
   generalize hA44 : World.alloc _ _ = v44
   obtain ⟨hB44, hY44, hz44⟩ := al_step hA44 nd_E
   clear hA44
   have hQ44 := hQ0.call hB44
   refine hK.out _ _ (HS.out _ hQ44) (fun hHeld => ?_)
   clear hK K
   try simp only [Act.put, setIfInBounds_toArray, set_cons_zero, set_cons_succ]
   refine wpAnyH_ready (rs := [2, 6]) (by kernel_rfl) (by simp) ?_
   refine .cons rfl (fun K hK => ?_) (.cons rfl (fun K hK => ?_) .nil)
   ·go_simp
    go_at_call 42
    refine (HR1.out _ (HV.out.2.2.trans (hQ44.bel.mono HV.out.2.2.size))).mono ?_
    rintro e v45 ⟨s1, p1, k1, c1, q1, l1, d1, rfl, hF45, hB45⟩
    have hQ45 := hQ44.call hB45
    have hz45 : v44.heap.size ≤ v45.heap.size := hB45.size
    have hY45 := hY44.below hB45
    go_wp2_with fail
    refine hK.out _ _ (HS.out _ hQ45) (fun hHeld => ?_)
    clear hK K
    try simp only [Act.put, setIfInBounds_toArray, set_cons_zero, set_cons_succ]
    refine wpAnyH_ready (rs := [5, 6]) (by kernel_rfl) (by simp) ?_
    refine .cons rfl (fun K hK => ?_) (.cons rfl (fun K hK => ?_) .nil)
    ·go_simp
     go_at_call 42
     refine (HR2.out _ (HV.out.2.2.trans (hQ45.bel.mono HV.out.2.2.size))).mono ?_
     rintro e v46 ⟨s2, p2, k2, c2, q2, l2, d2, rfl, hF46, hB46⟩
     have hQ46 := hQ45.call hB46
     have hz46 : v45.heap.size ≤ v46.heap.size := hB46.size
     have hY46 := hY45.below hB46
     have hG046 := hid (FNorm.below hF45.out hB46)
     go_wp2_with fail
     refine hK.out _ _ (HS.out _ hQ46) (fun hHeld => ?_)
     clear hK K
     try simp only [Act.put, setIfInBounds_toArray, set_cons_zero, set_cons_succ]
     refine wpAnyH_ready (rs := [6]) (by kernel_rfl) (by simp) ?_
     refine .cons rfl (fun K hK => ?_) .nil
     ·go_simp
      generalize hA47 : World.alloc _ _ = v47
      obtain ⟨hB47, hX47, hz47⟩ := al_step hA47 nd_E
      clear hA47
      have hQ47 := hQ46.call hB47
      have hY47 := hY46.below hB47
      have hG047 := hid (FNorm.below hG046.out hB47)
      have hG147 := hid (FNorm.below hF46.out hB47)
      refine hK.out _ _ (HS.out _ hQ47) (fun hHeld => ?_)
      clear hK K
      try simp only [Act.put, setIfInBounds_toArray, set_cons_zero, set_cons_succ]
      refine wpAnyH_ready (rs := [8]) (by kernel_rfl) (by simp) ?_
      refine .cons rfl (fun K hK => ?_) .nil
      ·obtain ⟨g48_0, g48_1, g48_2, g48_3, g48_4, g48_5, g48_6, g48_7⟩ := hX47.cells4
       go_simp
       generalize hW48 : World.setCell _ _ _ = v48
       obtain ⟨hQ48, hX48, hY48, hG048, hG148, hz48⟩ := st_step (R := FNorm) (fun _ _ _ _ _ _ _ => FNorm.stores) (w := v47) (B := v46.heap.size) (vs := [.int .i64 0, .bool s1, .slice p1 k1 c1, .slice q1 l1 d1]) hW48 hQ47 hX47 rfl nd_E (ne1 (by omega)) (by omega) hY47 (by omega) hG047 hG147
       clear hW48
       refine hK.out _ _ (HS.out _ hQ48) (fun hHeld => ?_)
       clear hK K
       try simp only [Act.put, setIfInBounds_toArray, set_cons_zero, set_cons_succ]
       refine wpAnyH_ready (rs := [9]) (by kernel_rfl) (by simp) ?_
       refine .cons rfl (fun K hK => ?_) .nil
       ·obtain ⟨g49_0, g49_1, g49_2, g49_3, g49_4, g49_5, g49_6, g49_7⟩ := hY48.cells4
        go_simp
        generalize hW49 : World.setCell _ _ _ = v49
        obtain ⟨hQ49, hY49, hX49, hG049, hG149, hz49⟩ := st_step (R := FNorm) (fun _ _ _ _ _ _ _ => FNorm.stores) (w := v48) (B := v0.heap.size) (vs := [.int .i64 0, .bool s2, .slice p2 k2 c2, .slice q2 l2 d2]) hW49 hQ48 hY48 rfl nd_E (ne1 (by omega)) (by omega) hX48 (by omega) hG048 hG148
        clear hW49
        refine hK.out _ _ (HS.out _ hQ49) (fun hHeld => ?_)
        clear hK K
        try simp only [Act.put, setIfInBounds_toArray, set_cons_zero, set_cons_succ]
        refine wpAnyH_done (by kernel_rfl) (NoPanic.normal ?_) _
        go_wp2_with fail
        go_meet
        exact ⟨v46.heap.size, v0.heap.size, s1, p1, k1, c1, q1, l1, d1, s2, p2, k2, c2, q2, l2, d2, rfl, rfl, by omega, hX49, hY49, hG049.out, hG149.out, hQ49.bel, by omega, by omega⟩
    ·go_simp
     generalize hA50 : World.alloc _ _ = v50
     obtain ⟨hB50, hX50, hz50⟩ := al_step hA50 nd_E
     clear hA50
     have hQ50 := hQ45.call hB50
     have hY50 := hY45.below hB50
     have hG050 := hid (FNorm.below hF45.out hB50)
     refine hK.out _ _ (HS.out _ hQ50) (fun hHeld => ?_)
     clear hK K
     try simp only [Act.put, setIfInBounds_toArray, set_cons_zero, set_cons_succ]
     refine wpAnyH_ready (rs := [5]) (by kernel_rfl) (by simp) ?_
     refine .cons rfl (fun K hK => ?_) .nil
     ·go_simp
      go_at_call 42
      refine (HR2.out _ (HV.out.2.2.trans (hQ50.bel.mono HV.out.2.2.size))).mono ?_
      rintro e v51 ⟨s2, p2, k2, c2, q2, l2, d2, rfl, hF51, hB51⟩
      have hQ51 := hQ50.call hB51
      have hz51 : v50.heap.size ≤ v51.heap.size := hB51.size
      have hY51 := hY50.below hB51
      have hX51 := hX50.below hB51
      have hG051 := hid (FNorm.below hG050.out hB51)
      go_wp2_with fail
      refine hK.out _ _ (HS.out _ hQ51) (fun hHeld => ?_)
      clear hK K
      try simp only [Act.put, setIfInBounds_toArray, set_cons_zero, set_cons_succ]
      refine wpAnyH_ready (rs := [8]) (by kernel_rfl) (by simp) ?_
      refine .cons rfl (fun K hK => ?_) .nil
      ·obtain ⟨g52_0, g52_1, g52_2, g52_3, g52_4, g52_5, g52_6, g52_7⟩ := hX51.cells4
       go_simp
       generalize hW52 : World.setCell _ _ _ = v52
       obtain ⟨hQ52, hX52, hY52, hG052, hG152, hz52⟩ := st_step (R := FNorm) (fun _ _ _ _ _ _ _ => FNorm.stores) (w := v51) (B := v45.heap.size) (vs := [.int .i64 0, .bool s1, .slice p1 k1 c1, .slice q1 l1 d1]) hW52 hQ51 hX51 rfl nd_E (ne1 (by omega)) (by omega) hY51 (by omega) hG051 hF51
       clear hW52
       refine hK.out _ _ (HS.out _ hQ52) (fun hHeld => ?_)
       clear hK K
       try simp only [Act.put, setIfInBounds_toArray, set_cons_zero, set_cons_succ]
       refine wpAnyH_ready (rs := [9]) (by kernel_rfl) (by simp) ?_
       refine .cons rfl (fun K hK => ?_) .nil
       ·obtain ⟨g53_0, g53_1, g53_2, g53_3, g53_4, g53_5, g53_6, g53_7⟩ := hY52.cells4
        go_simp
        generalize hW53 : World.setCell _ _ _ = v53
        obtain ⟨hQ53, hY53, hX53, hG053, hG153, hz53⟩ := st_step (R := FNorm) (fun _ _ _ _ _ _ _ => FNorm.stores) (w := v52) (B := v0.heap.size) (vs := [.int .i64 0, .bool s2, .slice p2 k2 c2, .slice q2 l2 d2]) hW53 hQ52 hY52 rfl nd_E (ne1 (by omega)) (by omega) hX52 (by omega) hG052 hG152
        clear hW53
        refine hK.out _ _ (HS.out _ hQ53) (fun hHeld => ?_)
        clear hK K
        try simp only [Act.put, setIfInBounds_toArray, set_cons_zero, set_cons_succ]
        refine wpAnyH_done (by kernel_rfl) (NoPanic.normal ?_) _
        go_wp2_with fail
        go_meet
        exact ⟨v45.heap.size, v0.heap.size, s1, p1, k1, c1, q1, l1, d1, s2, p2, k2, c2, q2, l2, d2, rfl, rfl, by omega, hX53, hY53, hG053.out, hG153.out, hQ53.bel, by omega, by omega⟩
   ·go_simp
    generalize hA54 : World.alloc _ _ = v54
    obtain ⟨hB54, hX54, hz54⟩ := al_step hA54 nd_E
    clear hA54
    have hQ54 := hQ44.call hB54
    have hY54 := hY44.below hB54
    refine hK.out _ _ (HS.out _ hQ54) (fun hHeld => ?_)
    clear hK K
    try simp only [Act.put, setIfInBounds_toArray, set_cons_zero, set_cons_succ]
    refine wpAnyH_ready (rs := [2]) (by kernel_rfl) (by simp) ?_
    refine .cons rfl (fun K hK => ?_) .nil
    ·go_simp
     go_at_call 42
     refine (HR1.out _ (HV.out.2.2.trans (hQ54.bel.mono HV.out.2.2.size))).mono ?_
     rintro e v55 ⟨s1, p1, k1, c1, q1, l1, d1, rfl, hF55, hB55⟩
     have hQ55 := hQ54.call hB55
     have hz55 : v54.heap.size ≤ v55.heap.size := hB55.size
     have hY55 := hY54.below hB55
     have hX55 := hX54.below hB55
     go_wp2_with fail
     refine hK.out _ _ (HS.out _ hQ55) (fun hHeld => ?_)
     clear hK K
     try simp only [Act.put, setIfInBounds_toArray, set_cons_zero, set_cons_succ]
     refine wpAnyH_ready (rs := [5]) (by kernel_rfl) (by simp) ?_
     refine .cons rfl (fun K hK => ?_) .nil
     ·go_simp
      go_at_call 42
      refine (HR2.out _ (HV.out.2.2.trans (hQ55.bel.mono HV.out.2.2.size))).mono ?_
      rintro e v56 ⟨s2, p2, k2, c2, q2, l2, d2, rfl, hF56, hB56⟩
      have hQ56 := hQ55.call hB56
      have hz56 : v55.heap.size ≤ v56.heap.size := hB56.size
      have hY56 := hY55.below hB56
      have hX56 := hX55.below hB56
      have hG056 := hid (FNorm.below hF55.out hB56)
      go_wp2_with fail
      refine hK.out _ _ (HS.out _ hQ56) (fun hHeld => ?_)
      clear hK K
      try simp only [Act.put, setIfInBounds_toArray, set_cons_zero, set_cons_succ]
      refine wpAnyH_ready (rs := [8]) (by kernel_rfl) (by simp) ?_
      refine .cons rfl (fun K hK => ?_) .nil
      ·obtain ⟨g57_0, g57_1, g57_2, g57_3, g57_4, g57_5, g57_6, g57_7⟩ := hX56.cells4
       go_simp
       generalize hW57 : World.setCell _ _ _ = v57
       obtain ⟨hQ57, hX57, hY57, hG057, hG157, hz57⟩ := st_step (R := FNorm) (fun _ _ _ _ _ _ _ => FNorm.stores) (w := v56) (B := v44.heap.size) (vs := [.int .i64 0, .bool s1, .slice p1 k1 c1, .slice q1 l1 d1]) hW57 hQ56 hX56 rfl nd_E (ne1 (by omega)) (by omega) hY56 (by omega) hG056 hF56
       clear hW57
       refine hK.out _ _ (HS.out _ hQ57) (fun hHeld => ?_)
       clear hK K
       try simp only [Act.put, setIfInBounds_toArray, set_cons_zero, set_cons_succ]
       refine wpAnyH_ready (rs := [9]) (by kernel_rfl) (by simp) ?_
       refine .cons rfl (fun K hK => ?_) .nil
       ·obtain ⟨g58_0, g58_1, g58_2, g58_3, g58_4, g58_5, g58_6, g58_7⟩ := hY57.cells4
        go_simp
        generalize hW58 : World.setCell _ _ _ = v58
        obtain ⟨hQ58, hY58, hX58, hG058, hG158, hz58⟩ := st_step (R := FNorm) (fun _ _ _ _ _ _ _ => FNorm.stores) (w := v57) (B := v0.heap.size) (vs := [.int .i64 0, .bool s2, .slice p2 k2 c2, .slice q2 l2 d2]) hW58 hQ57 hY57 rfl nd_E (ne1 (by omega)) (by omega) hX57 (by omega) hG057 hG157
        clear hW58
        refine hK.out _ _ (HS.out _ hQ58) (fun hHeld => ?_)
        clear hK K
        try simp only [Act.put, setIfInBounds_toArray, set_cons_zero, set_cons_succ]
        refine wpAnyH_done (by kernel_rfl) (NoPanic.normal ?_) _
        go_wp2_with fail
        go_meet
        exact ⟨v44.heap.size, v0.heap.size, s1, p1, k1, c1, q1, l1, d1, s2, p2, k2, c2, q2, l2, d2, rfl, rfl, by omega, hX58, hY58, hG058.out, hG158.out, hQ58.bel, by omega, by omega⟩
 case rest =>
  obtain ⟨X, Y, s1, p1, k1, c1, q1, l1, d1, s2, p2, k2, c2, q2, l2, d2, rfl, rfl, hXY, hX, hY, hF1, hF2, hBc, hlX, hlY⟩ := hcut
  rw [HX.out.1] at hF1
  rw [HX.out.2] at hF2
  have hlw : w.heap.size + 1 < W0.heap.size := HV.out.2.1.lt
  have hYX : Y ≠ X := fun h => hXY h.symm
  have hW := HV.out.2.2.trans (hBc.mono HV.out.2.2.size)
  have HB := hid (And.intro hX (And.intro hY (And.intro hF1 (And.intro hF2 (And.intro (HV.out.1.below hBc) (And.intro (HV.out.2.1.below hBc) hW))))))
  clear hX hY hF1 hF2 hBc hW HR1 HR2 HX
  obtain ⟨a0, a1, a2, a3, a4, a5, a6, a7, _⟩ := HB.out.2.2.2.2.1.cells8
  obtain ⟨x0, x1, x2, x3, e0, e1, e2, e3⟩ := HB.out.1.cells4
  obtain ⟨y0, y1, y2, y3, f0, f1, f2, f3⟩ := HB.out.2.1.cells4
  clear HV
  cases x <;> cases y
  case false.false =>
   go_wp2_with fail
   refine (from_any 0 s1 p1 k1 c1 q1 l1 d1 0 s2 p2 k2 c2 q2 l2 d2 (rdE false (-1) a) (rdE false 1 b) 64 _ (ERep.mk rfl (HB.out.2.2.1)) (ERep.mk rfl (HB.out.2.2.2.1)) HE1.out HE2.out (by omega)).mono ?_
   rintro e wf ⟨rfl, hBf⟩
   have hR := (HB.out.2.2.2.2.2.1).below hBf
   obtain ⟨h0, h1, h2, h3, h4, h5, h6, h7, h8, i0, i1, i2, i3, i4, i5, i6, i7, i8⟩ := hR.cells9
   have HE := hid (And.intro hR (And.intro ((show FNorm wf _ _ from FNorm.below (HB.out.2.2.1) hBf)) (And.intro ((show FNorm wf _ _ from FNorm.below (HB.out.2.2.2.1) hBf)) ((HB.out.2.2.2.2.2.2).trans (hBf.mono (HB.out.2.2.2.2.2.2).size)))))
   clear hR
   obtain ⟨rr, hrr⟩ : ∃ r, r = decide (0 < ecmp (rdE false (-1) a) (rdE false 1 b)) := ⟨_, rfl⟩
   rw [← hrr]
   have HRR := hid hrr
   clear hrr
   go_wp2_with fail
   exact readSet_ret rfl (HE.out.1.stores [.int .i64 0, .bool s1, .slice p1 k1 c1, .slice q1 l1 d1, .int .i64 0, .bool s2, .slice p2 k2 c2, .slice q2 l2 d2, .bool rr] rfl ⟨trivial, trivial, trivial, trivial, trivial, trivial, trivial, trivial, trivial, trivial⟩) ⟨_, _, _, _, _, _, _, _, _, _, _, _, _, _, _, _, _, rfl, hid ⟨_, _, _, _, _, _, _, _, _, _, _, _, _, _, _, _, _, rfl, ERep.mk rfl (FNorm.stores (k := 0) (l := [.int .i64 0, .bool s1, .slice p1 k1 c1, .slice q1 l1 d1, .int .i64 0, .bool s2, .slice p2 k2 c2, .slice q2 l2 d2, .bool rr]) HE.out.2.1 HE.out.1 ⟨trivial, trivial, trivial, trivial, trivial, trivial, trivial, trivial, trivial, trivial⟩), ERep.mk rfl (FNorm.stores (k := 0) (l := [.int .i64 0, .bool s1, .slice p1 k1 c1, .slice q1 l1 d1, .int .i64 0, .bool s2, .slice p2 k2 c2, .slice q2 l2 d2, .bool rr]) HE.out.2.2.1 HE.out.1 ⟨trivial, trivial, trivial, trivial, trivial, trivial, trivial, trivial, trivial, trivial⟩), HRR.out⟩, Below.stores (k := 0) (l := [.int .i64 0, .bool s1, .slice p1 k1 c1, .slice q1 l1 d1, .int .i64 0, .bool s2, .slice p2 k2 c2, .slice q2 l2 d2, .bool rr]) HE.out.2.2.2 (by omega)⟩
  case false.true =>
   go_wp2_with fail
   have hRY : Box ((((wc.setCell ⟨Y, 0, none⟩ (.int .i64 (1))).setCell ⟨Y, 1, none⟩ (.bool false)).setCell ⟨Y, 2, none⟩ (.slice none 0 0)).setCell ⟨Y, 3, none⟩ (.slice none 0 0)) (w.heap.size + 1) _ := Box.stores_other (k := 0) (l := [.int .i64 (1), .bool false, .slice none 0 0, .slice none 0 0]) (HB.out.2.2.2.2.2.1) (by omega)
   have hLY : Below w.heap.size w ((((wc.setCell ⟨Y, 0, none⟩ (.int .i64 (1))).setCell ⟨Y, 1, none⟩ (.bool false)).setCell ⟨Y, 2, none⟩ (.slice none 0 0)).setCell ⟨Y, 3, none⟩ (.slice none 0 0)) := Below.stores (k := 0) (l := [.int .i64 (1), .bool false, .slice none 0 0, .slice none 0 0]) (HB.out.2.2.2.2.2.2) (by omega)
   have hFY1 : FNorm ((((wc.setCell ⟨Y, 0, none⟩ (.int .i64 (1))).setCell ⟨Y, 1, none⟩ (.bool false)).setCell ⟨Y, 2, none⟩ (.slice none 0 0)).setCell ⟨Y, 3, none⟩ (.slice none 0 0)) (.agg #[.bool s1, .slice p1 k1 c1, .slice q1 l1 d1]) _ := FNorm.stores (k := 0) (l := [.int .i64 (1), .bool false, .slice none 0 0, .slice none 0 0]) (HB.out.2.2.1) (HB.out.2.1) ⟨trivial, trivial, trivial, trivial, trivial⟩
   have hFY2 : FNorm ((((wc.setCell ⟨Y, 0, none⟩ (.int .i64 (1))).setCell ⟨Y, 1, none⟩ (.bool false)).setCell ⟨Y, 2, none⟩ (.slice none 0 0)).setCell ⟨Y, 3, none⟩ (.slice none 0 0)) (.agg #[.bool s2, .slice p2 k2 c2, .slice q2 l2 d2]) _ := FNorm.stores (k := 0) (l := [.int .i64 (1), .bool false, .slice none 0 0, .slice none 0 0]) (HB.out.2.2.2.1) (HB.out.2.1) ⟨trivial, trivial, trivial, trivial, trivial⟩
   refine (from_any 0 s1 p1 k1 c1 q1 l1 d1 (1) false none 0 0 none 0 0 (rdE false (-1) a) (rdE true 1 b) 64 _ (ERep.mk rfl (hFY1)) (ERep.mk rfl ⟨_, _, rfl, Rep.nil, Rep.nil⟩) HE1.out HE2.out (by omega)).mono ?_
   rintro e wf ⟨rfl, hBf⟩
   have hR := (hRY).below hBf
   obtain ⟨h0, h1, h2, h3, h4, h5, h6, h7, h8, i0, i1, i2, i3, i4, i5, i6, i7, i8⟩ := hR.cells9
   have HE := hid (And.intro hR (And.intro ((show FNorm wf _ _ from FNorm.below (hFY1) hBf)) (And.intro ((show FNorm wf _ _ from FNorm.below (hFY2) hBf)) ((hLY).trans (hBf.mono (hLY).size)))))
   clear hR
   obtain ⟨rr, hrr⟩ : ∃ r, r = decide (0 < ecmp (rdE false (-1) a) (rdE true 1 b)) := ⟨_, rfl⟩
   rw [← hrr]
   have HRR := hid hrr
   clear hrr
   go_wp2_with fail
   exact readSet_ret rfl (HE.out.1.stores [.int .i64 0, .bool s1, .slice p1 k1 c1, .slice q1 l1 d1, .int .i64 (1), .bool false, .slice none 0 0, .slice none 0 0, .bool rr] rfl ⟨trivial, trivial, trivial, trivial, trivial, trivial, trivial, trivial, trivial, trivial⟩) ⟨_, _, _, _, _, _, _, _, _, _, _, _, _, _, _, _, _, rfl, hid ⟨_, _, _, _, _, _, _, _, _, _, _, _, _, _, _, _, _, rfl, ERep.mk rfl (FNorm.stores (k := 0) (l := [.int .i64 0, .bool s1, .slice p1 k1 c1, .slice q1 l1 d1, .int .i64 (1), .bool false, .slice none 0 0, .slice none 0 0, .bool rr]) HE.out.2.1 HE.out.1 ⟨trivial, trivial, trivial, trivial, trivial, trivial, trivial, trivial, trivial, trivial⟩), ERep.mk rfl ⟨_, _, rfl, Rep.nil, Rep.nil⟩, HRR.out⟩, Below.stores (k := 0) (l := [.int .i64 0, .bool s1, .slice p1 k1 c1, .slice q1 l1 d1, .int .i64 (1), .bool false, .slice none 0 0, .slice none 0 0, .bool rr]) HE.out.2.2.2 (by omega)⟩
  case true.false =>
   go_wp2_with fail
   have hRX : Box ((((wc.setCell ⟨X, 0, none⟩ (.int .i64 (-1))).setCell ⟨X, 1, none⟩ (.bool false)).setCell ⟨X, 2, none⟩ (.slice none 0 0)).setCell ⟨X, 3, none⟩ (.slice none 0 0)) (w.heap.size + 1) _ := Box.stores_other (k := 0) (l := [.int .i64 (-1), .bool false, .slice none 0 0, .slice none 0 0]) (HB.out.2.2.2.2.2.1) (by omega)
   have hLX : Below w.heap.size w ((((wc.setCell ⟨X, 0, none⟩ (.int .i64 (-1))).setCell ⟨X, 1, none⟩ (.bool false)).setCell ⟨X, 2, none⟩ (.slice none 0 0)).setCell ⟨X, 3, none⟩ (.slice none 0 0)) := Below.stores (k := 0) (l := [.int .i64 (-1), .bool false, .slice none 0 0, .slice none 0 0]) (HB.out.2.2.2.2.2.2) (by omega)
   have hFX1 : FNorm ((((wc.setCell ⟨X, 0, none⟩ (.int .i64 (-1))).setCell ⟨X, 1, none⟩ (.bool false)).setCell ⟨X, 2, none⟩ (.slice none 0 0)).setCell ⟨X, 3, none⟩ (.slice none 0 0)) (.agg #[.bool s1, .slice p1 k1 c1, .slice q1 l1 d1]) _ := FNorm.stores (k := 0) (l := [.int .i64 (-1), .bool false, .slice none 0 0, .slice none 0 0]) (HB.out.2.2.1) (HB.out.1) ⟨trivial, trivial, trivial, trivial, trivial⟩
   have hFX2 : FNorm ((((wc.setCell ⟨X, 0, none⟩ (.int .i64 (-1))).setCell ⟨X, 1, none⟩ (.bool false)).setCell ⟨X, 2, none⟩ (.slice none 0 0)).setCell ⟨X, 3, none⟩ (.slice none 0 0)) (.agg #[.bool s2, .slice p2 k2 c2, .slice q2 l2 d2]) _ := FNorm.stores (k := 0) (l := [.int .i64 (-1), .bool false, .slice none 0 0, .slice none 0 0]) (HB.out.2.2.2.1) (HB.out.1) ⟨trivial, trivial, trivial, trivial, trivial⟩
   have hYX2 : Box ((((wc.setCell ⟨X, 0, none⟩ (.int .i64 (-1))).setCell ⟨X, 1, none⟩ (.bool false)).setCell ⟨X, 2, none⟩ (.slice none 0 0)).setCell ⟨X, 3, none⟩ (.slice none 0 0)) Y _ := Box.stores_other (k := 0) (l := [.int .i64 (-1), .bool false, .slice none 0 0, .slice none 0 0]) (HB.out.2.1) (by omega)
   refine (from_any (-1) false none 0 0 none 0 0 0 s2 p2 k2 c2 q2 l2 d2 (rdE true (-1) a) (rdE false 1 b) 64 _ (ERep.mk rfl ⟨_, _, rfl, Rep.nil, Rep.nil⟩) (ERep.mk rfl (hFX2)) HE1.out HE2.out (by omega)).mono ?_
   rintro e wf ⟨rfl, hBf⟩
   have hR := (hRX).below hBf
   obtain ⟨h0, h1, h2, h3, h4, h5, h6, h7, h8, i0, i1, i2, i3, i4, i5, i6, i7, i8⟩ := hR.cells9
   have HE := hid (And.intro hR (And.intro ((show FNorm wf _ _ from FNorm.below (hFX1) hBf)) (And.intro ((show FNorm wf _ _ from FNorm.below (hFX2) hBf)) ((hLX).trans (hBf.mono (hLX).size)))))
   clear hR
   obtain ⟨rr, hrr⟩ : ∃ r, r = decide (0 < ecmp (rdE true (-1) a) (rdE false 1 b)) := ⟨_, rfl⟩
   rw [← hrr]
   have HRR := hid hrr
   clear hrr
   go_wp2_with fail
   exact readSet_ret rfl (HE.out.1.stores [.int .i64 (-1), .bool false, .slice none 0 0, .slice none 0 0, .int .i64 0, .bool s2, .slice p2 k2 c2, .slice q2 l2 d2, .bool rr] rfl ⟨trivial, trivial, trivial, trivial, trivial, trivial, trivial, trivial, trivial, trivial⟩) ⟨_, _, _, _, _, _, _, _, _, _, _, _, _, _, _, _, _, rfl, hid ⟨_, _, _, _, _, _, _, _, _, _, _, _, _, _, _, _, _, rfl, ERep.mk rfl ⟨_, _, rfl, Rep.nil, Rep.nil⟩, ERep.mk rfl (FNorm.stores (k := 0) (l := [.int .i64 (-1), .bool false, .slice none 0 0, .slice none 0 0, .int .i64 0, .bool s2, .slice p2 k2 c2, .slice q2 l2 d2, .bool rr]) HE.out.2.2.1 HE.out.1 ⟨trivial, trivial, trivial, trivial, trivial, trivial, trivial, trivial, trivial, trivial⟩), HRR.out⟩, Below.stores (k := 0) (l := [.int .i64 (-1), .bool false, .slice none 0 0, .slice none 0 0, .int .i64 0, .bool s2, .slice p2 k2 c2, .slice q2 l2 d2, .bool rr]) HE.out.2.2.2 (by omega)⟩
  case true.true =>
   go_wp2_with fail
   have hRX : Box ((((wc.setCell ⟨X, 0, none⟩ (.int .i64 (-1))).setCell ⟨X, 1, none⟩ (.bool false)).setCell ⟨X, 2, none⟩ (.slice none 0 0)).setCell ⟨X, 3, none⟩ (.slice none 0 0)) (w.heap.size + 1) _ := Box.stores_other (k := 0) (l := [.int .i64 (-1), .bool false, .slice none 0 0, .slice none 0 0]) (HB.out.2.2.2.2.2.1) (by omega)
   have hLX : Below w.heap.size w ((((wc.setCell ⟨X, 0, none⟩ (.int .i64 (-1))).setCell ⟨X, 1, none⟩ (.bool false)).setCell ⟨X, 2, none⟩ (.slice none 0 0)).setCell ⟨X, 3, none⟩ (.slice none 0 0)) := Below.stores (k := 0) (l := [.int .i64 (-1), .bool false, .slice none 0 0, .slice none 0 0]) (HB.out.2.2.2.2.2.2) (by omega)
   have hFX1 : FNorm ((((wc.setCell ⟨X, 0, none⟩ (.int .i64 (-1))).setCell ⟨X, 1, none⟩ (.bool false)).setCell ⟨X, 2, none⟩ (.slice none 0 0)).setCell ⟨X, 3, none⟩ (.slice none 0 0)) (.agg #[.bool s1, .slice p1 k1 c1, .slice q1 l1 d1]) _ := FNorm.stores (k := 0) (l := [.int .i64 (-1), .bool false, .slice none 0 0, .slice none 0 0]) (HB.out.2.2.1) (HB.out.1) ⟨trivial, trivial, trivial, trivial, trivial⟩
   have hFX2 : FNorm ((((wc.setCell ⟨X, 0, none⟩ (.int .i64 (-1))).setCell ⟨X, 1, none⟩ (.bool false)).setCell ⟨X, 2, none⟩ (.slice none 0 0)).setCell ⟨X, 3, none⟩ (.slice none 0 0)) (.agg #[.bool s2, .slice p2 k2 c2, .slice q2 l2 d2]) _ := FNorm.stores (k := 0) (l := [.int .i64 (-1), .bool false, .slice none 0 0, .slice none 0 0]) (HB.out.2.2.2.1) (HB.out.1) ⟨trivial, trivial, trivial, trivial, trivial⟩
   have hYX2 : Box ((((wc.setCell ⟨X, 0, none⟩ (.int .i64 (-1))).setCell ⟨X, 1, none⟩ (.bool false)).setCell ⟨X, 2, none⟩ (.slice none 0 0)).setCell ⟨X, 3, none⟩ (.slice none 0 0)) Y _ := Box.stores_other (k := 0) (l := [.int .i64 (-1), .bool false, .slice none 0 0, .slice none 0 0]) (HB.out.2.1) (by omega)
   have hRY : Box ((((((((wc.setCell ⟨X, 0, none⟩ (.int .i64 (-1))).setCell ⟨X, 1, none⟩ (.bool false)).setCell ⟨X, 2, none⟩ (.slice none 0 0)).setCell ⟨X, 3, none⟩ (.slice none 0 0)).setCell ⟨Y, 0, none⟩ (.int .i64 (1))).setCell ⟨Y, 1, none⟩ (.bool false)).setCell ⟨Y, 2, none⟩ (.slice none 0 0)).setCell ⟨Y, 3, none⟩ (.slice none 0 0)) (w.heap.size + 1) _ := Box.stores_other (k := 0) (l := [.int .i64 (1), .bool false, .slice none 0 0, .slice none 0 0]) (hRX) (by omega)
   have hLY : Below w.heap.size w ((((((((wc.setCell ⟨X, 0, none⟩ (.int .i64 (-1))).setCell ⟨X, 1, none⟩ (.bool false)).setCell ⟨X, 2, none⟩ (.slice none 0 0)).setCell ⟨X, 3, none⟩ (.slice none 0 0)).setCell ⟨Y, 0, none⟩ (.int .i64 (1))).setCell ⟨Y, 1, none⟩ (.bool false)).setCell ⟨Y, 2, none⟩ (.slice none 0 0)).setCell ⟨Y, 3, none⟩ (.slice none 0 0)) := Below.stores (k := 0) (l := [.int .i64 (1), .bool false, .slice none 0 0, .slice none 0 0]) (hLX) (by omega)
   have hFY1 : FNorm ((((((((wc.setCell ⟨X, 0, none⟩ (.int .i64 (-1))).setCell ⟨X, 1, none⟩ (.bool false)).setCell ⟨X, 2, none⟩ (.slice none 0 0)).setCell ⟨X, 3, none⟩ (.slice none 0 0)).setCell ⟨Y, 0, none⟩ (.int .i64 (1))).setCell ⟨Y, 1, none⟩ (.bool false)).setCell ⟨Y, 2, none⟩ (.slice none 0 0)).setCell ⟨Y, 3, none⟩ (.slice none 0 0)) (.agg #[.bool s1, .slice p1 k1 c1, .slice q1 l1 d1]) _ := FNorm.stores (k := 0) (l := [.int .i64 (1), .bool false, .slice none 0 0, .slice none 0 0]) (hFX1) (hYX2) ⟨trivial, trivial, trivial, trivial, trivial⟩
   have hFY2 : FNorm ((((((((wc.setCell ⟨X, 0, none⟩ (.int .i64 (-1))).setCell ⟨X, 1, none⟩ (.bool false)).setCell ⟨X, 2, none⟩ (.slice none 0 0)).setCell ⟨X, 3, none⟩ (.slice none 0 0)).setCell ⟨Y, 0, none⟩ (.int .i64 (1))).setCell ⟨Y, 1, none⟩ (.bool false)).setCell ⟨Y, 2, none⟩ (.slice none 0 0)).setCell ⟨Y, 3, none⟩ (.slice none 0 0)) (.agg #[.bool s2, .slice p2 k2 c2, .slice q2 l2 d2]) _ := FNorm.stores (k := 0) (l := [.int .i64 (1), .bool false, .slice none 0 0, .slice none 0 0]) (hFX2) (hYX2) ⟨trivial, trivial, trivial, trivial, trivial⟩
   refine (from_any (-1) false none 0 0 none 0 0 (1) false none 0 0 none 0 0 (rdE true (-1) a) (rdE true 1 b) 64 _ (ERep.mk rfl ⟨_, _, rfl, Rep.nil, Rep.nil⟩) (ERep.mk rfl ⟨_, _, rfl, Rep.nil, Rep.nil⟩) HE1.out HE2.out (by omega)).mono ?_
   rintro e wf ⟨rfl, hBf⟩
   have hR := (hRY).below hBf
   obtain ⟨h0, h1, h2, h3, h4, h5, h6, h7, h8, i0, i1, i2, i3, i4, i5, i6, i7, i8⟩ := hR.cells9
   have HE := hid (And.intro hR (And.intro ((show FNorm wf _ _ from FNorm.below (hFY1) hBf)) (And.intro ((show FNorm wf _ _ from FNorm.below (hFY2) hBf)) ((hLY).trans (hBf.mono (hLY).size)))))
   clear hR
   obtain ⟨rr, hrr⟩ : ∃ r, r = decide (0 < ecmp (rdE true (-1) a) (rdE true 1 b)) := ⟨_, rfl⟩
   rw [← hrr]
   have HRR := hid hrr
   clear hrr
   go_wp2_with fail
   exact readSet_ret rfl (HE.out.1.stores [.int .i64 (-1), .bool false, .slice none 0 0, .slice none 0 0, .int .i64 (1), .bool false, .slice none 0 0, .slice none 0 0, .bool rr] rfl ⟨trivial, trivial, trivial, trivial, trivial, trivial, trivial, trivial, trivial, trivial⟩) ⟨_, _, _, _, _, _, _, _, _, _, _, _, _, _, _, _, _, rfl, hid ⟨_, _, _, _, _, _, _, _, _, _, _, _, _, _, _, _, _, rfl, ERep.mk rfl ⟨_, _, rfl, Rep.nil, Rep.nil⟩, ERep.mk rfl ⟨_, _, rfl, Rep.nil, Rep.nil⟩, HRR.out⟩, Below.stores (k := 0) (l := [.int .i64 (-1), .bool false, .slice none 0 0, .slice none 0 0, .int .i64 (1), .bool false, .slice none 0 0, .slice none 0 0, .bool rr]) HE.out.2.2.2 (by omega)⟩
end Go.Proofs.YtheojajaefjecaaGreatDoor
namespace Go.Proofs.YtheojajaefjecaaGreatDoor
open Go.RowKit Dg
open List (setIfInBounds_toArray set_cons_zero set_cons_succ)
theorem readSet_l1 (s : Bool) (p : Option Addr) (k c : Nat) (q : Option Addr) (l d : Nat) (sz : Bool) (pz : Option Addr) (kz cz : Nat) (qz : Option Addr) (lz dz : Nat) (x : Bool) (y : Bool) (a : Bool × Nat × Nat) (w : World) (ha : NRep w (.agg #[.bool s, .slice p k c, .slice q l d]) a) (h1 : large a.2.1 a.2.2 = true) (ht : TabOk w) :
  Calls Tryz.prog 79 #[.agg #[.bool s, .slice p k c, .slice q l d, .bool sz, .slice pz kz cz, .slice qz lz dz, .bool x, .bool y]] w fun e w' => e = pan 1 ∧ Below w.heap.size w w' := by
 have HR1 := hid (fun (W : World) (hW : Below w.heap.size w W) => read_large (.agg #[.bool s, .slice p k c, .slice q l d]) a W (ha.below hW) h1 (ht.below hW))
 clear ha h1 ht
 go_enter Tryz.func79, Tryz.ntmps79
 go_upto_region 1 with fail
 generalize hA : World.alloc _ _ = W0
 have HV := hid (pre2_o hA nd8 nd9)
 clear hA
 have HS := hid (fun (w' : World) (hb : QQ W0 [(w.heap.size, [.bool s, .slice p k c, .slice q l d, .bool sz, .slice pz kz cz, .slice qz lz dz, .bool x, .bool y])] w') => hb.s_8)
 have HQ := hid (QQ.i1 (cs := [.bool s, .slice p k c, .slice q l d, .bool sz, .slice pz kz cz, .slice qz lz dz, .bool x, .bool y]) HV.out.1 (Below.refl W0.heap.size W0))
 have hz0 : w.heap.size + 1 < W0.heap.size := HV.out.2.1.lt
 skip
 refine wp_region_held_drew (S := (fun w' => w'.cell? ⟨w.heap.size, 0, none⟩ = some (.bool s) ∧ w'.cell? ⟨w.heap.size, 1, none⟩ = some (.slice p k c) ∧ w'.cell? ⟨w.heap.size, 2, none⟩ = some (.slice q l d) ∧ w'.cell? ⟨w.heap.size, 3, none⟩ = some (.bool sz) ∧ w'.cell? ⟨w.heap.size, 4, none⟩ = some (.slice pz kz cz) ∧ w'.cell? ⟨w.heap.size, 5, none⟩ = some (.slice qz lz dz) ∧ w'.cell? ⟨w.heap.size, 6, none⟩ = some (.bool x) ∧ w'.cell? ⟨w.heap.size, 7, none⟩ = some (.bool y) ∧ Hid (QQ W0 [(w.heap.size, [.bool s, .slice p k c, .slice q l d, .bool sz, .slice pz kz cz, .slice qz lz dz, .bool x, .bool y])] w'))) (by kernel_rfl) (HS.out _ HQ.out.drew) (fun hHeld => ?_)
 refine wpAnyH_take (i := 0) (v := ?vv0) rfl (by kernel_rfl) (by kernel_rfl) (by kernel_rfl) (fun _ _ _ h => h) (Or.inl ⟨by rfl, ?hy0⟩) (by assumption) ?_
 case hy0 => (intro w' hSw; (try dsimp only at hSw); go_simp; first | done | with_reducible rfl)
 simp only [Act.put]
 refine wpAnyH_take (i := 1) (v := ?vv1) rfl (by kernel_rfl) (by kernel_rfl) (by kernel_rfl) (fun _ _ _ h => h) (Or.inl ⟨by rfl, ?hy1⟩) (by assumption) ?_
 case hy1 => (intro w' hSw; (try dsimp only at hSw); go_simp; first | done | with_reducible rfl)
 simp only [Act.put]
 refine wpAnyH_take (i := 3) (v := ?vv3) rfl (by kernel_rfl) (by kernel_rfl) (by kernel_rfl) (fun _ _ _ h => h) (Or.inl ⟨by rfl, ?hy3⟩) (by assumption) ?_
 case hy3 => (intro w' hSw; (try dsimp only at hSw); go_simp; first | done | with_reducible rfl)
 simp only [Act.put]
 refine wpAnyH_take (i := 4) (v := ?vv4) rfl (by kernel_rfl) (by kernel_rfl) (by kernel_rfl) (fun _ _ _ h => h) (Or.inl ⟨by rfl, ?hy4⟩) (by assumption) ?_
 case hy4 => (intro w' hSw; (try dsimp only at hSw); go_simp; first | done | with_reducible rfl)
 simp only [Act.put]
 have hQ0 := HQ.out.drew; have hz : W0.heap.size ≤ W0.drew.heap.size := Nat.le_refl _; generalize W0.drew = v0 at *
 refine wpAnyH_ready (rs := [2, 6, 7]) (by kernel_rfl) (by simp) ?_
 refine .cons rfl (fun K hK => ?_) (.cons rfl (fun K hK => ?_) (.cons rfl (fun K hK => ?_) .nil))
 ·go_simp
  go_at_call 42
  refine (HR1.out _ (HV.out.2.2.trans (hQ0.bel.mono HV.out.2.2.size))).mono ?_
  rintro e v1 ⟨rfl, hB1⟩
  exact ⟨rfl, rfl, HV.out.2.2.trans ((hQ0.bel.trans (hB1.mono hQ0.bel.size)).mono HV.out.2.2.size)⟩
 ·go_simp
  have hB2 : Below v0.heap.size v0 (v0.alloc (.cells #[.int .i64 0, .bool false, .slice none 0 0, .slice none 0 0] 57)) := (Below.refl _ _).alloc (Nat.le_refl _) _
  have hX2 := Box.mk' v0 [.int .i64 0, .bool false, .slice none 0 0, .slice none 0 0] 57 ⟨trivial, trivial, trivial, trivial, trivial⟩
  generalize v0.alloc (.cells #[.int .i64 0, .bool false, .slice none 0 0, .slice none 0 0] 57) = v2 at *
  have hQ2 := hQ0.call hB2
  have hz2 : v0.heap.size < v2.heap.size := hX2.lt
  refine hK.out _ _ ?_ (fun hHeld => ?_)
  ·exact HS.out _ hQ2
  clear hK K
  try simp only [Act.put, setIfInBounds_toArray, set_cons_zero, set_cons_succ]
  refine wpAnyH_ready (rs := [2, 7]) (by kernel_rfl) (by simp) ?_
  refine .cons rfl (fun K hK => ?_) (.cons rfl (fun K hK => ?_) .nil)
  ·go_simp
   go_at_call 42
   refine (HR1.out _ (HV.out.2.2.trans (hQ2.bel.mono HV.out.2.2.size))).mono ?_
   rintro e v3 ⟨rfl, hB3⟩
   exact ⟨rfl, rfl, HV.out.2.2.trans ((hQ2.bel.trans (hB3.mono hQ2.bel.size)).mono HV.out.2.2.size)⟩
  ·go_simp
   have hB4 : Below v2.heap.size v2 (v2.alloc (.cells #[.int .i64 0, .bool false, .slice none 0 0, .slice none 0 0] 57)) := (Below.refl _ _).alloc (Nat.le_refl _) _
   have hY4 := Box.mk' v2 [.int .i64 0, .bool false, .slice none 0 0, .slice none 0 0] 57 ⟨trivial, trivial, trivial, trivial, trivial⟩
   generalize v2.alloc (.cells #[.int .i64 0, .bool false, .slice none 0 0, .slice none 0 0] 57) = v4 at *
   have hQ4 := hQ2.call hB4
   have hz4 : v2.heap.size < v4.heap.size := hY4.lt
   have hX4 := hX2.below hB4
   refine hK.out _ _ ?_ (fun hHeld => ?_)
   ·exact HS.out _ hQ4
   clear hK K
   try simp only [Act.put, setIfInBounds_toArray, set_cons_zero, set_cons_succ]
   refine wpAnyH_ready (rs := [2]) (by kernel_rfl) (by simp) ?_
   refine .cons rfl (fun K hK => ?_) .nil
   ·go_simp
    go_at_call 42
    refine (HR1.out _ (HV.out.2.2.trans (hQ4.bel.mono HV.out.2.2.size))).mono ?_
    rintro e v5 ⟨rfl, hB5⟩
    exact ⟨rfl, rfl, HV.out.2.2.trans ((hQ4.bel.trans (hB5.mono hQ4.bel.size)).mono HV.out.2.2.size)⟩
 ·go_simp
  have hB6 : Below v0.heap.size v0 (v0.alloc (.cells #[.int .i64 0, .bool false, .slice none 0 0, .slice none 0 0] 57)) := (Below.refl _ _).alloc (Nat.le_refl _) _
  have hY6 := Box.mk' v0 [.int .i64 0, .bool false, .slice none 0 0, .slice none 0 0] 57 ⟨trivial, trivial, trivial, trivial, trivial⟩
  generalize v0.alloc (.cells #[.int .i64 0, .bool false, .slice none 0 0, .slice none 0 0] 57) = v6 at *
  have hQ6 := hQ0.call hB6
  have hz6 : v0.heap.size < v6.heap.size := hY6.lt
  refine hK.out _ _ ?_ (fun hHeld => ?_)
  ·exact HS.out _ hQ6
  clear hK K
  try simp only [Act.put, setIfInBounds_toArray, set_cons_zero, set_cons_succ]
  refine wpAnyH_ready (rs := [2, 6]) (by kernel_rfl) (by simp) ?_
  refine .cons rfl (fun K hK => ?_) (.cons rfl (fun K hK => ?_) .nil)
  ·go_simp
   go_at_call 42
   refine (HR1.out _ (HV.out.2.2.trans (hQ6.bel.mono HV.out.2.2.size))).mono ?_
   rintro e v7 ⟨rfl, hB7⟩
   exact ⟨rfl, rfl, HV.out.2.2.trans ((hQ6.bel.trans (hB7.mono hQ6.bel.size)).mono HV.out.2.2.size)⟩
  ·go_simp
   have hB8 : Below v6.heap.size v6 (v6.alloc (.cells #[.int .i64 0, .bool false, .slice none 0 0, .slice none 0 0] 57)) := (Below.refl _ _).alloc (Nat.le_refl _) _
   have hX8 := Box.mk' v6 [.int .i64 0, .bool false, .slice none 0 0, .slice none 0 0] 57 ⟨trivial, trivial, trivial, trivial, trivial⟩
   generalize v6.alloc (.cells #[.int .i64 0, .bool false, .slice none 0 0, .slice none 0 0] 57) = v8 at *
   have hQ8 := hQ6.call hB8
   have hz8 : v6.heap.size < v8.heap.size := hX8.lt
   have hY8 := hY6.below hB8
   refine hK.out _ _ ?_ (fun hHeld => ?_)
   ·exact HS.out _ hQ8
   clear hK K
   try simp only [Act.put, setIfInBounds_toArray, set_cons_zero, set_cons_succ]
   refine wpAnyH_ready (rs := [2]) (by kernel_rfl) (by simp) ?_
   refine .cons rfl (fun K hK => ?_) .nil
   ·go_simp
    go_at_call 42
    refine (HR1.out _ (HV.out.2.2.trans (hQ8.bel.mono HV.out.2.2.size))).mono ?_
    rintro e v9 ⟨rfl, hB9⟩
    exact ⟨rfl, rfl, HV.out.2.2.trans ((hQ8.bel.trans (hB9.mono hQ8.bel.size)).mono HV.out.2.2.size)⟩
theorem readSet_l2 (s : Bool) (p : Option Addr) (k c : Nat) (q : Option Addr) (l d : Nat) (sz : Bool) (pz : Option Addr) (kz cz : Nat) (qz : Option Addr) (lz dz : Nat) (x : Bool) (y : Bool) (a b : Bool × Nat × Nat) (w : World) (ha : NRep w (.agg #[.bool s, .slice p k c, .slice q l d]) a) (hb : NRep w (.agg #[.bool sz, .slice pz kz cz, .slice qz lz dz]) b) (h1 : large a.2.1 a.2.2 = false) (h2 : large b.2.1 b.2.2 = true) (ht : TabOk w) :
  Calls Tryz.prog 79 #[.agg #[.bool s, .slice p k c, .slice q l d, .bool sz, .slice pz kz cz, .slice qz lz dz, .bool x, .bool y]] w fun e w' => e = pan 1 ∧ Below w.heap.size w w' := by
 have HR1 := hid (fun (W : World) (hW : Below w.heap.size w W) => read_ok (.agg #[.bool s, .slice p k c, .slice q l d]) a W (ha.below hW) h1 (ht.below hW))
 have HR2 := hid (fun (W : World) (hW : Below w.heap.size w W) => read_large (.agg #[.bool sz, .slice pz kz cz, .slice qz lz dz]) b W (hb.below hW) h2 (ht.below hW))
 obtain ⟨r1, hr1⟩ : ∃ r, r = fr a := ⟨_, rfl⟩
 rw [← hr1] at HR1
 clear hr1
 clear ha hb h1 h2 ht
 go_enter Tryz.func79, Tryz.ntmps79
 go_upto_region 1 with fail
 generalize hA : World.alloc _ _ = W0
 have HV := hid (pre2_o hA nd8 nd9)
 clear hA
 have HS := hid (fun (w' : World) (hb : QQ W0 [(w.heap.size, [.bool s, .slice p k c, .slice q l d, .bool sz, .slice pz kz cz, .slice qz lz dz, .bool x, .bool y])] w') => hb.s_8)
 have HQ := hid (QQ.i1 (cs := [.bool s, .slice p k c, .slice q l d, .bool sz, .slice pz kz cz, .slice qz lz dz, .bool x, .bool y]) HV.out.1 (Below.refl W0.heap.size W0))
 have hz0 : w.heap.size + 1 < W0.heap.size := HV.out.2.1.lt
 skip
 refine wp_region_held_drew (S := (fun w' => w'.cell? ⟨w.heap.size, 0, none⟩ = some (.bool s) ∧ w'.cell? ⟨w.heap.size, 1, none⟩ = some (.slice p k c) ∧ w'.cell? ⟨w.heap.size, 2, none⟩ = some (.slice q l d) ∧ w'.cell? ⟨w.heap.size, 3, none⟩ = some (.bool sz) ∧ w'.cell? ⟨w.heap.size, 4, none⟩ = some (.slice pz kz cz) ∧ w'.cell? ⟨w.heap.size, 5, none⟩ = some (.slice qz lz dz) ∧ w'.cell? ⟨w.heap.size, 6, none⟩ = some (.bool x) ∧ w'.cell? ⟨w.heap.size, 7, none⟩ = some (.bool y) ∧ Hid (QQ W0 [(w.heap.size, [.bool s, .slice p k c, .slice q l d, .bool sz, .slice pz kz cz, .slice qz lz dz, .bool x, .bool y])] w'))) (by kernel_rfl) (HS.out _ HQ.out.drew) (fun hHeld => ?_)
 refine wpAnyH_take (i := 0) (v := ?vv0) rfl (by kernel_rfl) (by kernel_rfl) (by kernel_rfl) (fun _ _ _ h => h) (Or.inl ⟨by rfl, ?hy0⟩) (by assumption) ?_
 case hy0 => (intro w' hSw; (try dsimp only at hSw); go_simp; first | done | with_reducible rfl)
 simp only [Act.put]
 refine wpAnyH_take (i := 1) (v := ?vv1) rfl (by kernel_rfl) (by kernel_rfl) (by kernel_rfl) (fun _ _ _ h => h) (Or.inl ⟨by rfl, ?hy1⟩) (by assumption) ?_
 case hy1 => (intro w' hSw; (try dsimp only at hSw); go_simp; first | done | with_reducible rfl)
 simp only [Act.put]
 refine wpAnyH_take (i := 3) (v := ?vv3) rfl (by kernel_rfl) (by kernel_rfl) (by kernel_rfl) (fun _ _ _ h => h) (Or.inl ⟨by rfl, ?hy3⟩) (by assumption) ?_
 case hy3 => (intro w' hSw; (try dsimp only at hSw); go_simp; first | done | with_reducible rfl)
 simp only [Act.put]
 refine wpAnyH_take (i := 4) (v := ?vv4) rfl (by kernel_rfl) (by kernel_rfl) (by kernel_rfl) (fun _ _ _ h => h) (Or.inl ⟨by rfl, ?hy4⟩) (by assumption) ?_
 case hy4 => (intro w' hSw; (try dsimp only at hSw); go_simp; first | done | with_reducible rfl)
 simp only [Act.put]
 have hQ0 := HQ.out.drew; have hz : W0.heap.size ≤ W0.drew.heap.size := Nat.le_refl _; generalize W0.drew = v0 at *
 refine wpAnyH_ready (rs := [2, 6, 7]) (by kernel_rfl) (by simp) ?_
 refine .cons rfl (fun K hK => ?_) (.cons rfl (fun K hK => ?_) (.cons rfl (fun K hK => ?_) .nil))
 ·go_simp
  go_at_call 42
  refine (HR1.out _ (HV.out.2.2.trans (hQ0.bel.mono HV.out.2.2.size))).mono ?_
  rintro e v1 ⟨s1, p1, k1, c1, q1, l1, d1, rfl, hF1, hB1⟩
  have hQ1 := hQ0.call hB1
  have hz1 : v0.heap.size ≤ v1.heap.size := hB1.size
  go_wp2_with fail
  refine hK.out _ _ ?_ (fun hHeld => ?_)
  ·exact HS.out _ hQ1
  clear hK K
  try simp only [Act.put, setIfInBounds_toArray, set_cons_zero, set_cons_succ]
  refine wpAnyH_ready (rs := [5, 6, 7]) (by kernel_rfl) (by simp) ?_
  refine .cons rfl (fun K hK => ?_) (.cons rfl (fun K hK => ?_) (.cons rfl (fun K hK => ?_) .nil))
  ·go_simp
   go_at_call 42
   refine (HR2.out _ (HV.out.2.2.trans (hQ1.bel.mono HV.out.2.2.size))).mono ?_
   rintro e v2 ⟨rfl, hB2⟩
   exact ⟨rfl, rfl, HV.out.2.2.trans ((hQ1.bel.trans (hB2.mono hQ1.bel.size)).mono HV.out.2.2.size)⟩
  ·go_simp
   have hB3 : Below v1.heap.size v1 (v1.alloc (.cells #[.int .i64 0, .bool false, .slice none 0 0, .slice none 0 0] 57)) := (Below.refl _ _).alloc (Nat.le_refl _) _
   have hX3 := Box.mk' v1 [.int .i64 0, .bool false, .slice none 0 0, .slice none 0 0] 57 ⟨trivial, trivial, trivial, trivial, trivial⟩
   generalize v1.alloc (.cells #[.int .i64 0, .bool false, .slice none 0 0, .slice none 0 0] 57) = v3 at *
   have hQ3 := hQ1.call hB3
   have hz3 : v1.heap.size < v3.heap.size := hX3.lt
   have hG03 := hid (FNorm.below hF1.out hB3)
   refine hK.out _ _ ?_ (fun hHeld => ?_)
   ·exact HS.out _ hQ3
   clear hK K
   try simp only [Act.put, setIfInBounds_toArray, set_cons_zero, set_cons_succ]
   refine wpAnyH_ready (rs := [5, 7]) (by kernel_rfl) (by simp) ?_
   refine .cons rfl (fun K hK => ?_) (.cons rfl (fun K hK => ?_) .nil)
   ·go_simp
    go_at_call 42
    refine (HR2.out _ (HV.out.2.2.trans (hQ3.bel.mono HV.out.2.2.size))).mono ?_
    rintro e v4 ⟨rfl, hB4⟩
    exact ⟨rfl, rfl, HV.out.2.2.trans ((hQ3.bel.trans (hB4.mono hQ3.bel.size)).mono HV.out.2.2.size)⟩
   ·go_simp
    have hB5 : Below v3.heap.size v3 (v3.alloc (.cells #[.int .i64 0, .bool false, .slice none 0 0, .slice none 0 0] 57)) := (Below.refl _ _).alloc (Nat.le_refl _) _
    have hY5 := Box.mk' v3 [.int .i64 0, .bool false, .slice none 0 0, .slice none 0 0] 57 ⟨trivial, trivial, trivial, trivial, trivial⟩
    generalize v3.alloc (.cells #[.int .i64 0, .bool false, .slice none 0 0, .slice none 0 0] 57) = v5 at *
    have hQ5 := hQ3.call hB5
    have hz5 : v3.heap.size < v5.heap.size := hY5.lt
    have hX5 := hX3.below hB5
    have hG05 := hid (FNorm.below hG03.out hB5)
    refine hK.out _ _ ?_ (fun hHeld => ?_)
    ·exact HS.out _ hQ5
    clear hK K
    try simp only [Act.put, setIfInBounds_toArray, set_cons_zero, set_cons_succ]
    refine wpAnyH_ready (rs := [5]) (by kernel_rfl) (by simp) ?_
    refine .cons rfl (fun K hK => ?_) .nil
    ·go_simp
     go_at_call 42
     refine (HR2.out _ (HV.out.2.2.trans (hQ5.bel.mono HV.out.2.2.size))).mono ?_
     rintro e v6 ⟨rfl, hB6⟩
     exact ⟨rfl, rfl, HV.out.2.2.trans ((hQ5.bel.trans (hB6.mono hQ5.bel.size)).mono HV.out.2.2.size)⟩
  ·go_simp
   have hB7 : Below v1.heap.size v1 (v1.alloc (.cells #[.int .i64 0, .bool false, .slice none 0 0, .slice none 0 0] 57)) := (Below.refl _ _).alloc (Nat.le_refl _) _
   have hY7 := Box.mk' v1 [.int .i64 0, .bool false, .slice none 0 0, .slice none 0 0] 57 ⟨trivial, trivial, trivial, trivial, trivial⟩
   generalize v1.alloc (.cells #[.int .i64 0, .bool false, .slice none 0 0, .slice none 0 0] 57) = v7 at *
   have hQ7 := hQ1.call hB7
   have hz7 : v1.heap.size < v7.heap.size := hY7.lt
   have hG07 := hid (FNorm.below hF1.out hB7)
   refine hK.out _ _ ?_ (fun hHeld => ?_)
   ·exact HS.out _ hQ7
   clear hK K
   try simp only [Act.put, setIfInBounds_toArray, set_cons_zero, set_cons_succ]
   refine wpAnyH_ready (rs := [5, 6]) (by kernel_rfl) (by simp) ?_
   refine .cons rfl (fun K hK => ?_) (.cons rfl (fun K hK => ?_) .nil)
   ·go_simp
    go_at_call 42
    refine (HR2.out _ (HV.out.2.2.trans (hQ7.bel.mono HV.out.2.2.size))).mono ?_
    rintro e v8 ⟨rfl, hB8⟩
    exact ⟨rfl, rfl, HV.out.2.2.trans ((hQ7.bel.trans (hB8.mono hQ7.bel.size)).mono HV.out.2.2.size)⟩
   ·go_simp
    have hB9 : Below v7.heap.size v7 (v7.alloc (.cells #[.int .i64 0, .bool false, .slice none 0 0, .slice none 0 0] 57)) := (Below.refl _ _).alloc (Nat.le_refl _) _
    have hX9 := Box.mk' v7 [.int .i64 0, .bool false, .slice none 0 0, .slice none 0 0] 57 ⟨trivial, trivial, trivial, trivial, trivial⟩
    generalize v7.alloc (.cells #[.int .i64 0, .bool false, .slice none 0 0, .slice none 0 0] 57) = v9 at *
    have hQ9 := hQ7.call hB9
    have hz9 : v7.heap.size < v9.heap.size := hX9.lt
    have hY9 := hY7.below hB9
    have hG09 := hid (FNorm.below hG07.out hB9)
    refine hK.out _ _ ?_ (fun hHeld => ?_)
    ·exact HS.out _ hQ9
    clear hK K
    try simp only [Act.put, setIfInBounds_toArray, set_cons_zero, set_cons_succ]
    refine wpAnyH_ready (rs := [5]) (by kernel_rfl) (by simp) ?_
    refine .cons rfl (fun K hK => ?_) .nil
    ·go_simp
     go_at_call 42
     refine (HR2.out _ (HV.out.2.2.trans (hQ9.bel.mono HV.out.2.2.size))).mono ?_
     rintro e v10 ⟨rfl, hB10⟩
     exact ⟨rfl, rfl, HV.out.2.2.trans ((hQ9.bel.trans (hB10.mono hQ9.bel.size)).mono HV.out.2.2.size)⟩
 ·go_simp
  have hB11 : Below v0.heap.size v0 (v0.alloc (.cells #[.int .i64 0, .bool false, .slice none 0 0, .slice none 0 0] 57)) := (Below.refl _ _).alloc (Nat.le_refl _) _
  have hX11 := Box.mk' v0 [.int .i64 0, .bool false, .slice none 0 0, .slice none 0 0] 57 ⟨trivial, trivial, trivial, trivial, trivial⟩
  generalize v0.alloc (.cells #[.int .i64 0, .bool false, .slice none 0 0, .slice none 0 0] 57) = v11 at *
  have hQ11 := hQ0.call hB11
  have hz11 : v0.heap.size < v11.heap.size := hX11.lt
  refine hK.out _ _ ?_ (fun hHeld => ?_)
  ·exact HS.out _ hQ11
  clear hK K
  try simp only [Act.put, setIfInBounds_toArray, set_cons_zero, set_cons_succ]
  refine wpAnyH_ready (rs := [2, 7]) (by kernel_rfl) (by simp) ?_
  refine .cons rfl (fun K hK => ?_) (.cons rfl (fun K hK => ?_) .nil)
  ·go_simp
   go_at_call 42
   refine (HR1.out _ (HV.out.2.2.trans (hQ11.bel.mono HV.out.2.2.size))).mono ?_
   rintro e v12 ⟨s1, p1, k1, c1, q1, l1, d1, rfl, hF12, hB12⟩
   have hQ12 := hQ11.call hB12
   have hz12 : v11.heap.size ≤ v12.heap.size := hB12.size
   have hX12 := hX11.below hB12
   go_wp2_with fail
   refine hK.out _ _ ?_ (fun hHeld => ?_)
   ·exact HS.out _ hQ12
   clear hK K
   try simp only [Act.put, setIfInBounds_toArray, set_cons_zero, set_cons_succ]
   refine wpAnyH_ready (rs := [5, 7]) (by kernel_rfl) (by simp) ?_
   refine .cons rfl (fun K hK => ?_) (.cons rfl (fun K hK => ?_) .nil)
   ·go_simp
    go_at_call 42
    refine (HR2.out _ (HV.out.2.2.trans (hQ12.bel.mono HV.out.2.2.size))).mono ?_
    rintro e v13 ⟨rfl, hB13⟩
    exact ⟨rfl, rfl, HV.out.2.2.trans ((hQ12.bel.trans (hB13.mono hQ12.bel.size)).mono HV.out.2.2.size)⟩
   ·go_simp
    have hB14 : Below v12.heap.size v12 (v12.alloc (.cells #[.int .i64 0, .bool false, .slice none 0 0, .slice none 0 0] 57)) := (Below.refl _ _).alloc (Nat.le_refl _) _
    have hY14 := Box.mk' v12 [.int .i64 0, .bool false, .slice none 0 0, .slice none 0 0] 57 ⟨trivial, trivial, trivial, trivial, trivial⟩
    generalize v12.alloc (.cells #[.int .i64 0, .bool false, .slice none 0 0, .slice none 0 0] 57) = v14 at *
    have hQ14 := hQ12.call hB14
    have hz14 : v12.heap.size < v14.heap.size := hY14.lt
    have hX14 := hX12.below hB14
    have hG014 := hid (FNorm.below hF12.out hB14)
    refine hK.out _ _ ?_ (fun hHeld => ?_)
    ·exact HS.out _ hQ14
    clear hK K
    try simp only [Act.put, setIfInBounds_toArray, set_cons_zero, set_cons_succ]
    refine wpAnyH_ready (rs := [5]) (by kernel_rfl) (by simp) ?_
    refine .cons rfl (fun K hK => ?_) .nil
    ·go_simp
     go_at_call 42
     refine (HR2.out _ (HV.out.2.2.trans (hQ14.bel.mono HV.out.2.2.size))).mono ?_
     rintro e v15 ⟨rfl, hB15⟩
     exact ⟨rfl, rfl, HV.out.2.2.trans ((hQ14.bel.trans (hB15.mono hQ14.bel.size)).mono HV.out.2.2.size)⟩
  ·go_simp
   have hB16 : Below v11.heap.size v11 (v11.alloc (.cells #[.int .i64 0, .bool false, .slice none 0 0, .slice none 0 0] 57)) := (Below.refl _ _).alloc (Nat.le_refl _) _
   have hY16 := Box.mk' v11 [.int .i64 0, .bool false, .slice none 0 0, .slice none 0 0] 57 ⟨trivial, trivial, trivial, trivial, trivial⟩
   generalize v11.alloc (.cells #[.int .i64 0, .bool false, .slice none 0 0, .slice none 0 0] 57) = v16 at *
   have hQ16 := hQ11.call hB16
   have hz16 : v11.heap.size < v16.heap.size := hY16.lt
   have hX16 := hX11.below hB16
   refine hK.out _ _ ?_ (fun hHeld => ?_)
   ·exact HS.out _ hQ16
   clear hK K
   try simp only [Act.put, setIfInBounds_toArray, set_cons_zero, set_cons_succ]
   refine wpAnyH_ready (rs := [2]) (by kernel_rfl) (by simp) ?_
   refine .cons rfl (fun K hK => ?_) .nil
   ·go_simp
    go_at_call 42
    refine (HR1.out _ (HV.out.2.2.trans (hQ16.bel.mono HV.out.2.2.size))).mono ?_
    rintro e v17 ⟨s1, p1, k1, c1, q1, l1, d1, rfl, hF17, hB17⟩
    have hQ17 := hQ16.call hB17
    have hz17 : v16.heap.size ≤ v17.heap.size := hB17.size
    have hX17 := hX16.below hB17
    have hY17 := hY16.below hB17
    go_wp2_with fail
    refine hK.out _ _ ?_ (fun hHeld => ?_)
    ·exact HS.out _ hQ17
    clear hK K
    try simp only [Act.put, setIfInBounds_toArray, set_cons_zero, set_cons_succ]
    refine wpAnyH_ready (rs := [5]) (by kernel_rfl) (by simp) ?_
    refine .cons rfl (fun K hK => ?_) .nil
    ·go_simp
     go_at_call 42
     refine (HR2.out _ (HV.out.2.2.trans (hQ17.bel.mono HV.out.2.2.size))).mono ?_
     rintro e v18 ⟨rfl, hB18⟩
     exact ⟨rfl, rfl, HV.out.2.2.trans ((hQ17.bel.trans (hB18.mono hQ17.bel.size)).mono HV.out.2.2.size)⟩
 ·go_simp
  have hB19 : Below v0.heap.size v0 (v0.alloc (.cells #[.int .i64 0, .bool false, .slice none 0 0, .slice none 0 0] 57)) := (Below.refl _ _).alloc (Nat.le_refl _) _
  have hY19 := Box.mk' v0 [.int .i64 0, .bool false, .slice none 0 0, .slice none 0 0] 57 ⟨trivial, trivial, trivial, trivial, trivial⟩
  generalize v0.alloc (.cells #[.int .i64 0, .bool false, .slice none 0 0, .slice none 0 0] 57) = v19 at *
  have hQ19 := hQ0.call hB19
  have hz19 : v0.heap.size < v19.heap.size := hY19.lt
  refine hK.out _ _ ?_ (fun hHeld => ?_)
  ·exact HS.out _ hQ19
  clear hK K
  try simp only [Act.put, setIfInBounds_toArray, set_cons_zero, set_cons_succ]
  refine wpAnyH_ready (rs := [2, 6]) (by kernel_rfl) (by simp) ?_
  refine .cons rfl (fun K hK => ?_) (.cons rfl (fun K hK => ?_) .nil)
  ·go_simp
   go_at_call 42
   refine (HR1.out _ (HV.out.2.2.trans (hQ19.bel.mono HV.out.2.2.size))).mono ?_
   rintro e v20 ⟨s1, p1, k1, c1, q1, l1, d1, rfl, hF20, hB20⟩
   have hQ20 := hQ19.call hB20
   have hz20 : v19.heap.size ≤ v20.heap.size := hB20.size
   have hY20 := hY19.below hB20
   go_wp2_with fail
   refine hK.out _ _ ?_ (fun hHeld => ?_)
   ·exact HS.out _ hQ20
   clear hK K
   try simp only [Act.put, setIfInBounds_toArray, set_cons_zero, set_cons_succ]
   refine wpAnyH_ready (rs := [5, 6]) (by kernel_rfl) (by simp) ?_
   refine .cons rfl (fun K hK => ?_) (.cons rfl (fun K hK => ?_) .nil)
   ·go_simp
    go_at_call 42
    refine (HR2.out _ (HV.out.2.2.trans (hQ20.bel.mono HV.out.2.2.size))).mono ?_
    rintro e v21 ⟨rfl, hB21⟩
    exact ⟨rfl, rfl, HV.out.2.2.trans ((hQ20.bel.trans (hB21.mono hQ20.bel.size)).mono HV.out.2.2.size)⟩
   ·go_simp
    have hB22 : Below v20.heap.size v20 (v20.alloc (.cells #[.int .i64 0, .bool false, .slice none 0 0, .slice none 0 0] 57)) := (Below.refl _ _).alloc (Nat.le_refl _) _
    have hX22 := Box.mk' v20 [.int .i64 0, .bool false, .slice none 0 0, .slice none 0 0] 57 ⟨trivial, trivial, trivial, trivial, trivial⟩
    generalize v20.alloc (.cells #[.int .i64 0, .bool false, .slice none 0 0, .slice none 0 0] 57) = v22 at *
    have hQ22 := hQ20.call hB22
    have hz22 : v20.heap.size < v22.heap.size := hX22.lt
    have hY22 := hY20.below hB22
    have hG022 := hid (FNorm.below hF20.out hB22)
    refine hK.out _ _ ?_ (fun hHeld => ?_)
    ·exact HS.out _ hQ22
    clear hK K
    try simp only [Act.put, setIfInBounds_toArray, set_cons_zero, set_cons_succ]
    refine wpAnyH_ready (rs := [5]) (by kernel_rfl) (by simp) ?_
    refine .cons rfl (fun K hK => ?_) .nil
    ·go_simp
     go_at_call 42
     refine (HR2.out _ (HV.out.2.2.trans (hQ22.bel.mono HV.out.2.2.size))).mono ?_
     rintro e v23 ⟨rfl, hB23⟩
     exact ⟨rfl, rfl, HV.out.2.2.trans ((hQ22.bel.trans (hB23.mono hQ22.bel.size)).mono HV.out.2.2.size)⟩
  ·go_simp
   have hB24 : Below v19.heap.size v19 (v19.alloc (.cells #[.int .i64 0, .bool false, .slice none 0 0, .slice none 0 0] 57)) := (Below.refl _ _).alloc (Nat.le_refl _) _
   have hX24 := Box.mk' v19 [.int .i64 0, .bool false, .slice none 0 0, .slice none 0 0] 57 ⟨trivial, trivial, trivial, trivial, trivial⟩
   generalize v19.alloc (.cells #[.int .i64 0, .bool false, .slice none 0 0, .slice none 0 0] 57) = v24 at *
   have hQ24 := hQ19.call hB24
   have hz24 : v19.heap.size < v24.heap.size := hX24.lt
   have hY24 := hY19.below hB24
   refine hK.out _ _ ?_ (fun hHeld => ?_)
   ·exact HS.out _ hQ24
   clear hK K
   try simp only [Act.put, setIfInBounds_toArray, set_cons_zero, set_cons_succ]
   refine wpAnyH_ready (rs := [2]) (by kernel_rfl) (by simp) ?_
   refine .cons rfl (fun K hK => ?_) .nil
   ·go_simp
    go_at_call 42
    refine (HR1.out _ (HV.out.2.2.trans (hQ24.bel.mono HV.out.2.2.size))).mono ?_
    rintro e v25 ⟨s1, p1, k1, c1, q1, l1, d1, rfl, hF25, hB25⟩
    have hQ25 := hQ24.call hB25
    have hz25 : v24.heap.size ≤ v25.heap.size := hB25.size
    have hY25 := hY24.below hB25
    have hX25 := hX24.below hB25
    go_wp2_with fail
    refine hK.out _ _ ?_ (fun hHeld => ?_)
    ·exact HS.out _ hQ25
    clear hK K
    try simp only [Act.put, setIfInBounds_toArray, set_cons_zero, set_cons_succ]
    refine wpAnyH_ready (rs := [5]) (by kernel_rfl) (by simp) ?_
    refine .cons rfl (fun K hK => ?_) .nil
    ·go_simp
     go_at_call 42
     refine (HR2.out _ (HV.out.2.2.trans (hQ25.bel.mono HV.out.2.2.size))).mono ?_
     rintro e v26 ⟨rfl, hB26⟩
     exact ⟨rfl, rfl, HV.out.2.2.trans ((hQ25.bel.trans (hB26.mono hQ25.bel.size)).mono HV.out.2.2.size)⟩
theorem readSet_pan (s : Bool) (p : Option Addr) (k c : Nat) (q : Option Addr) (l d : Nat) (sz : Bool) (pz : Option Addr) (kz cz : Nat) (qz : Option Addr) (lz dz : Nat) (x : Bool) (y : Bool) (a b : Bool × Nat × Nat) (w : World) (ha : NRep w (.agg #[.bool s, .slice p k c, .slice q l d]) a) (hb : NRep w (.agg #[.bool sz, .slice pz kz cz, .slice qz lz dz]) b) (h : (large a.2.1 a.2.2 || large b.2.1 b.2.2) = true) (ht : TabOk w) :
  Calls Tryz.prog 79 #[.agg #[.bool s, .slice p k c, .slice q l d, .bool sz, .slice pz kz cz, .slice qz lz dz, .bool x, .bool y]] w fun e w' => e = pan 1 ∧ Below w.heap.size w w' := by
 cases h1 : large a.2.1 a.2.2
 ·rw [h1, Bool.false_or] at h
  exact readSet_l2 s p k c q l d sz pz kz cz qz lz dz x y a b w ha hb h1 h ht
 ·exact readSet_l1 s p k c q l d sz pz kz cz qz lz dz x y a w ha h1 ht
end Go.Proofs.YtheojajaefjecaaGreatDoor
