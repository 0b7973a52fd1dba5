/- Sets of the program: reading an interval. -/
import Derived.Test.YtgjjcmclikiojaaGreatDoorIvA
import Derived.Deep.CutRange
namespace Go.Proofs.YtgjjcmclikiojaaGreatDoor
open Go.RowKit Dg

/-- The value v is a set. -/
def SRep (w : World) (v : Value) (x : (Int × Bool × Nat × Nat) × (Int × Bool × Nat × Nat) × Bool) : Prop :=
  ∃ i s p k c q l d j sz pz kz cz qz lz dz e, v = .agg #[.int .i64 i, .bool s, .slice p k c, .slice q l d, .int .i64 j, .bool sz, .slice pz kz cz, .slice qz lz dz, .bool e] ∧ ERep w (.agg #[.int .i64 i, .bool s, .slice p k c, .slice q l d]) x.1 ∧ ERep w (.agg #[.int .i64 j, .bool sz, .slice pz kz cz, .slice qz lz dz]) x.2.1 ∧ e = x.2.2
/-- The value v is an interval of the interface. -/
def IRep (w : World) (v : Value) (a : (Bool × Nat × Nat) × (Bool × Nat × Nat) × Bool × Bool) : Prop :=
  ∃ s p k c q l d sz pz kz cz qz lz dz x y, v = .agg #[.bool s, .slice p k c, .slice q l d, .bool sz, .slice pz kz cz, .slice qz lz dz, .bool x, .bool y] ∧ NRep w (.agg #[.bool s, .slice p k c, .slice q l d]) a.1 ∧ NRep w (.agg #[.bool sz, .slice pz kz cz, .slice qz lz dz]) a.2.1 ∧ x = a.2.2.1 ∧ y = a.2.2.2
theorem IRep.below {w w' : World} {v : Value} {a : (Bool × Nat × Nat) × (Bool × Nat × Nat) × Bool × Bool} (h : IRep w v a) (hb : Below w.heap.size w w') : IRep w' v a := by
  obtain ⟨s, p, k, c, q, l, d, sz, pz, kz, cz, qz, lz, dz, x, y, hv, h1, h2, h3⟩ := h
  exact ⟨s, p, k, c, q, l, d, sz, pz, kz, cz, qz, lz, dz, x, y, hv, h1.below hb, h2.below hb, h3⟩

/-- What an end is read as. -/
def rdE (inf : Bool) (g : Int) (t : Bool × Nat × Nat) : Int × Bool × Nat × Nat := if inf then (g, false, 0, 0) else (0, fr t)
/-- What an interval is read as. -/
def srd (a : (Bool × Nat × Nat) × (Bool × Nat × Nat) × Bool × Bool) : (Int × Bool × Nat × Nat) × (Int × Bool × Nat × Nat) × Bool := sfrom (rdE a.2.2.1 (-1) a.1) (rdE a.2.2.2 1 a.2.1)
/-- A number of the interval is large. -/
def ilarge (a : (Bool × Nat × Nat) × (Bool × Nat × Nat) × Bool × Bool) : Bool := large a.1.2.1 a.1.2.2 || large a.2.1.2.1 a.2.1.2.2
theorem rdE_ok {inf : Bool} {g : Int} {t : Bool × Nat × Nat} (hg : g = 1 ∨ g = -1) (hl : large t.2.1 t.2.2 = false) : EOk 64 (rdE inf g t) := by
  cases inf
  · exact ⟨fun _ => IsFr.fr t, fun h => absurd rfl h, (fr_bd hl).1, (fr_bd hl).2⟩
  · refine ⟨fun h => ?_, fun _ => ⟨hg, rfl⟩, Nat.pow_pos W32_pos, Nat.pow_pos W32_pos⟩
    have h' : g = 0 := h
    omega

/-- What the first piece of readSet leaves. -/
def CutRd (W0 : World) (a b : Bool × Nat × Nat) (v3 v4 : Value) (wx : World) : Prop :=
  ∃ X Y s1 p1 k1 c1 q1 l1 d1 s2 p2 k2 c2 q2 l2 d2, v3 = .pointer (some ⟨X, 0, none⟩) ∧ v4 = .pointer (some ⟨Y, 0, none⟩) ∧ X ≠ Y ∧ Box wx X #[.int .i64 0, .bool s1, .slice p1 k1 c1, .slice q1 l1 d1] ∧ Box wx Y #[.int .i64 0, .bool s2, .slice p2 k2 c2, .slice q2 l2 d2] ∧ FNorm wx (.agg #[.bool s1, .slice p1 k1 c1, .slice q1 l1 d1]) a ∧ FNorm wx (.agg #[.bool s2, .slice p2 k2 c2, .slice q2 l2 d2]) b ∧ Below W0.heap.size W0 wx ∧ W0.heap.size ≤ X ∧ W0.heap.size ≤ Y

theorem readSet_ret {W : World} {B : Nat} {a0 a1 a2 a3 a4 a5 a6 a7 a8 : Value} {tm : Array Value} {R : Ending → World → Prop} (h2 : tm[2]?.getD undef = .pointer (some ⟨B, 0, none⟩)) (hV : Box W B #[a0, a1, a2, a3, a4, a5, a6, a7, a8]) (hR : R (.returned (.agg #[a0, a1, a2, a3, a4, a5, a6, a7, a8])) W) :
    bodyPost Tryz.prog Tryz.f115 R .ret { tmps := tm, defers := [] } W := by
  obtain ⟨g0, g1, g2, g3, g4, g5, g6, g7, g8, _⟩ := hV.cells9
  exact bodyPost_ret (v := .agg #[a0, a1, a2, a3, a4, a5, a6, a7, a8]) (by simp [results, Tryz.results115, go_sem, h2, g0, g1, g2, g3, g4, g5, g6, g7, g8]) rfl hR
set_option maxHeartbeats 4000000 in
set_option maxRecDepth 100000 in
theorem readSet_ok (s : Bool) (p : Option Addr) (k c : Nat) (q : Option Addr) (l d : Nat) (sz : Bool) (pz : Option Addr) (kz cz : Nat) (qz : Option Addr) (lz dz : Nat) (x : Bool) (y : Bool) (a b : Bool × Nat × Nat) (w : World) (ha : NRep w (.agg #[.bool s, .slice p k c, .slice q l d]) a) (hb : NRep w (.agg #[.bool sz, .slice pz kz cz, .slice qz lz dz]) b) (h1 : large a.2.1 a.2.2 = false) (h2 : large b.2.1 b.2.2 = false) (ht : TabOk w) :
    Calls Tryz.prog 115 #[.agg #[.bool s, .slice p k c, .slice q l d, .bool sz, .slice pz kz cz, .slice qz lz dz, .bool x, .bool y]] w fun e w' => ∃ i1 s1 p1 k1 c1 q1 l1 d1 j1 sz1 pz1 kz1 cz1 qz1 lz1 dz1 e1, e = .returned (.agg #[.int .i64 i1, .bool s1, .slice p1 k1 c1, .slice q1 l1 d1, .int .i64 j1, .bool sz1, .slice pz1 kz1 cz1, .slice qz1 lz1 dz1, .bool e1]) ∧ Hid (SRep w' (.agg #[.int .i64 i1, .bool s1, .slice p1 k1 c1, .slice q1 l1 d1, .int .i64 j1, .bool sz1, .slice pz1 kz1 cz1, .slice qz1 lz1 dz1, .bool e1]) (srd (a, b, x, y))) ∧ Below w.heap.size w w' := by
  have HR1 := hid (fun (W : World) (hW : Below w.heap.size w W) => read_ok (.agg #[.bool s, .slice p k c, .slice q l d]) a W (ha.below hW) h1 (ht.below hW))
  have HR2 := hid (fun (W : World) (hW : Below w.heap.size w W) => read_ok (.agg #[.bool sz, .slice pz kz cz, .slice qz lz dz]) b W (hb.below hW) h2 (ht.below hW))
  have HE1 := hid (rdE_ok (inf := x) (g := -1) (.inr rfl) h1)
  have HE2 := hid (rdE_ok (inf := y) (g := 1) (.inl rfl) h2)
  clear ha hb h1 h2 ht
  obtain ⟨r1, hr1⟩ : ∃ r, r = fr a := ⟨_, rfl⟩
  obtain ⟨r2, hr2⟩ : ∃ r, r = fr b := ⟨_, rfl⟩
  rw [← hr1] at HR1
  rw [← hr2] at HR2
  have HX := hid (And.intro hr1 hr2)
  clear hr1 hr2
  go_enter Tryz.func115, Tryz.ntmps115
  go_upto_region 1 with fail
  have HV := hid (pre2 w [.bool s, .slice p k c, .slice q l d, .bool sz, .slice pz kz cz, .slice qz lz dz, .bool x, .bool y] [.int .i64 0, .bool false, .slice none 0 0, .slice none 0 0, .int .i64 0, .bool false, .slice none 0 0, .slice none 0 0, .bool false] 26 61 ⟨trivial, trivial, trivial, trivial, trivial, trivial, trivial, trivial, trivial⟩ ⟨trivial, trivial, trivial, trivial, trivial, trivial, trivial, trivial, trivial, trivial⟩)
  generalize (w.alloc (.cells #[.bool s, .slice p k c, .slice q l d, .bool sz, .slice pz kz cz, .slice qz lz dz, .bool x, .bool y] 26)).alloc (.cells #[.int .i64 0, .bool false, .slice none 0 0, .slice none 0 0, .int .i64 0, .bool false, .slice none 0 0, .slice none 0 0, .bool false] 61) = W0 at *
  go_cut [3, 4] from 5 to 11 (fun v3 v4 wx => CutRd W0 r1 r2 v3 v4 wx)
  case first =>
    have HS : Hid (∀ w', QQ W0 [(w.heap.size, [.bool s, .slice p k c, .slice q l d, .bool sz, .slice pz kz cz, .slice qz lz dz, .bool x, .bool y])] w' → (w'.cell? ⟨w.heap.size, 0, none⟩ = some (.bool s) ∧ w'.cell? ⟨w.heap.size, 1, none⟩ = some (.slice p k c) ∧ w'.cell? ⟨w.heap.size, 2, none⟩ = some (.slice q l d) ∧ w'.cell? ⟨w.heap.size, 3, none⟩ = some (.bool sz) ∧ w'.cell? ⟨w.heap.size, 4, none⟩ = some (.slice pz kz cz) ∧ w'.cell? ⟨w.heap.size, 5, none⟩ = some (.slice qz lz dz) ∧ w'.cell? ⟨w.heap.size, 6, none⟩ = some (.bool x) ∧ w'.cell? ⟨w.heap.size, 7, none⟩ = some (.bool y) ∧ Hid (QQ W0 [(w.heap.size, [.bool s, .slice p k c, .slice q l d, .bool sz, .slice pz kz cz, .slice qz lz dz, .bool x, .bool y])] w'))) :=
      hid fun w' hb => ⟨(hb.b1.cells8).1, (hb.b1.cells8).2.1, (hb.b1.cells8).2.2.1, (hb.b1.cells8).2.2.2.1, (hb.b1.cells8).2.2.2.2.1, (hb.b1.cells8).2.2.2.2.2.1, (hb.b1.cells8).2.2.2.2.2.2.1, (hb.b1.cells8).2.2.2.2.2.2.2.1, hid hb⟩
    have HQ := hid (QQ.i1 (cs := [.bool s, .slice p k c, .slice q l d, .bool sz, .slice pz kz cz, .slice qz lz dz, .bool x, .bool y]) HV.out.1 (Below.refl W0.heap.size W0))
    have hz0 : w.heap.size + 1 < W0.heap.size := HV.out.2.1.lt
    refine wp_region_noPanic ?_
    refine wp_region_held_drew (S := (fun w' => w'.cell? ⟨w.heap.size, 0, none⟩ = some (.bool s) ∧ w'.cell? ⟨w.heap.size, 1, none⟩ = some (.slice p k c) ∧ w'.cell? ⟨w.heap.size, 2, none⟩ = some (.slice q l d) ∧ w'.cell? ⟨w.heap.size, 3, none⟩ = some (.bool sz) ∧ w'.cell? ⟨w.heap.size, 4, none⟩ = some (.slice pz kz cz) ∧ w'.cell? ⟨w.heap.size, 5, none⟩ = some (.slice qz lz dz) ∧ w'.cell? ⟨w.heap.size, 6, none⟩ = some (.bool x) ∧ w'.cell? ⟨w.heap.size, 7, none⟩ = some (.bool y) ∧ Hid (QQ W0 [(w.heap.size, [.bool s, .slice p k c, .slice q l d, .bool sz, .slice pz kz cz, .slice qz lz dz, .bool x, .bool y])] w'))) (by kernel_rfl) (HS.out _ HQ.out.drew) (fun hHeld => ?_)
    refine wpAnyH_take (i := 0) (v := ?vv0) rfl (by kernel_rfl) (by kernel_rfl) (by kernel_rfl) (fun _ _ _ h => h) (Or.inl ⟨by rfl, ?hy0⟩) (by assumption) ?_
    case hy0 => (intro w' hSw; (try dsimp only at hSw); go_simp; first | done | with_reducible rfl)
    simp only [Act.put]
    refine wpAnyH_take (i := 1) (v := ?vv1) rfl (by kernel_rfl) (by kernel_rfl) (by kernel_rfl) (fun _ _ _ h => h) (Or.inl ⟨by rfl, ?hy1⟩) (by assumption) ?_
    case hy1 => (intro w' hSw; (try dsimp only at hSw); go_simp; first | done | with_reducible rfl)
    simp only [Act.put]
    refine wpAnyH_take (i := 3) (v := ?vv3) rfl (by kernel_rfl) (by kernel_rfl) (by kernel_rfl) (fun _ _ _ h => h) (Or.inl ⟨by rfl, ?hy3⟩) (by assumption) ?_
    case hy3 => (intro w' hSw; (try dsimp only at hSw); go_simp; first | done | with_reducible rfl)
    simp only [Act.put]
    refine wpAnyH_take (i := 4) (v := ?vv4) rfl (by kernel_rfl) (by kernel_rfl) (by kernel_rfl) (fun _ _ _ h => h) (Or.inl ⟨by rfl, ?hy4⟩) (by assumption) ?_
    case hy4 => (intro w' hSw; (try dsimp only at hSw); go_simp; first | done | with_reducible rfl)
    simp only [Act.put]
    have hQ0 := HQ.out.drew; have hz : W0.heap.size ≤ W0.drew.heap.size := Nat.le_refl _; generalize W0.drew = v0 at *
    refine wpAnyH_ready (rs := [2, 6, 7]) (by kernel_rfl) (by simp) ?_
    refine AllReadyH.cons rfl (fun K hK => ?_) (AllReadyH.cons rfl (fun K hK => ?_) (AllReadyH.cons rfl (fun K hK => ?_) AllReadyH.nil))
    · go_simp
      go_at_call 57
      refine (HR1.out _ (HV.out.2.2.trans (hQ0.bel.mono HV.out.2.2.size))).mono ?_
      rintro e v1 ⟨s1, p1, k1, c1, q1, l1, d1, rfl, hF1, hB1⟩
      have hQ1 := hQ0.call hB1
      have hz1 : v0.heap.size ≤ v1.heap.size := hB1.size
      go_wp2_with fail
      refine hK.out _ _ ?_ (fun hHeld => ?_)
      · exact HS.out _ hQ1
      clear hK K
      try simp only [Act.put, List.setIfInBounds_toArray, List.set_cons_zero, List.set_cons_succ]
      refine wpAnyH_ready (rs := [5, 6, 7]) (by kernel_rfl) (by simp) ?_
      refine AllReadyH.cons rfl (fun K hK => ?_) (AllReadyH.cons rfl (fun K hK => ?_) (AllReadyH.cons rfl (fun K hK => ?_) AllReadyH.nil))
      · go_simp
        go_at_call 57
        refine (HR2.out _ (HV.out.2.2.trans (hQ1.bel.mono HV.out.2.2.size))).mono ?_
        rintro e v2 ⟨s2, p2, k2, c2, q2, l2, d2, rfl, hF2, hB2⟩
        have hQ2 := hQ1.call hB2
        have hz2 : v1.heap.size ≤ v2.heap.size := hB2.size
        have hG02 := hid (FNorm.below hF1.out hB2)
        go_wp2_with fail
        refine hK.out _ _ ?_ (fun hHeld => ?_)
        · exact HS.out _ hQ2
        clear hK K
        try simp only [Act.put, List.setIfInBounds_toArray, List.set_cons_zero, List.set_cons_succ]
        refine wpAnyH_ready (rs := [6, 7]) (by kernel_rfl) (by simp) ?_
        refine AllReadyH.cons rfl (fun K hK => ?_) (AllReadyH.cons rfl (fun K hK => ?_) AllReadyH.nil)
        · go_simp
          have hB3 : Below v2.heap.size v2 (v2.alloc (.cells #[.int .i64 0, .bool false, .slice none 0 0, .slice none 0 0] 59)) := (Below.refl _ _).alloc (Nat.le_refl _) _
          have hX3 := Box.mk' v2 [.int .i64 0, .bool false, .slice none 0 0, .slice none 0 0] 59 ⟨trivial, trivial, trivial, trivial, trivial⟩
          generalize v2.alloc (.cells #[.int .i64 0, .bool false, .slice none 0 0, .slice none 0 0] 59) = v3 at *
          have hQ3 := hQ2.call hB3
          have hz3 : v2.heap.size < v3.heap.size := hX3.lt
          have hG03 := hid (FNorm.below hG02.out hB3)
          have hG13 := hid (FNorm.below hF2.out hB3)
          refine hK.out _ _ ?_ (fun hHeld => ?_)
          · exact HS.out _ hQ3
          clear hK K
          try simp only [Act.put, List.setIfInBounds_toArray, List.set_cons_zero, List.set_cons_succ]
          refine wpAnyH_ready (rs := [7]) (by kernel_rfl) (by simp) ?_
          refine AllReadyH.cons rfl (fun K hK => ?_) AllReadyH.nil
          · go_simp
            have hB4 : Below v3.heap.size v3 (v3.alloc (.cells #[.int .i64 0, .bool false, .slice none 0 0, .slice none 0 0] 59)) := (Below.refl _ _).alloc (Nat.le_refl _) _
            have hY4 := Box.mk' v3 [.int .i64 0, .bool false, .slice none 0 0, .slice none 0 0] 59 ⟨trivial, trivial, trivial, trivial, trivial⟩
            generalize v3.alloc (.cells #[.int .i64 0, .bool false, .slice none 0 0, .slice none 0 0] 59) = v4 at *
            have hQ4 := hQ3.call hB4
            have hz4 : v3.heap.size < v4.heap.size := hY4.lt
            have hX4 := hX3.below hB4
            have hG04 := hid (FNorm.below hG03.out hB4)
            have hG14 := hid (FNorm.below hG13.out hB4)
            refine hK.out _ _ ?_ (fun hHeld => ?_)
            · exact HS.out _ hQ4
            clear hK K
            try simp only [Act.put, List.setIfInBounds_toArray, List.set_cons_zero, List.set_cons_succ]
            refine wpAnyH_ready (rs := [8]) (by kernel_rfl) (by simp) ?_
            refine AllReadyH.cons rfl (fun K hK => ?_) AllReadyH.nil
            · obtain ⟨g5_0, g5_1, g5_2, g5_3, g5_4, g5_5, g5_6, g5_7⟩ := hX4.cells4
              go_simp
              have hQ5 : QQ _ _ ((((v4.setCell ⟨v2.heap.size, 0, none⟩ (.int .i64 0)).setCell ⟨v2.heap.size, 1, none⟩ (.bool s1)).setCell ⟨v2.heap.size, 2, none⟩ (.slice p1 k1 c1)).setCell ⟨v2.heap.size, 3, none⟩ (.slice q1 l1 d1)) := QQ.stores (k := 0) (vs := [.int .i64 0, .bool s1, .slice p1 k1 c1, .slice q1 l1 d1]) hQ4 (ne1 (by omega)) (by omega)
              have hX5 : Box ((((v4.setCell ⟨v2.heap.size, 0, none⟩ (.int .i64 0)).setCell ⟨v2.heap.size, 1, none⟩ (.bool s1)).setCell ⟨v2.heap.size, 2, none⟩ (.slice p1 k1 c1)).setCell ⟨v2.heap.size, 3, none⟩ (.slice q1 l1 d1)) (v2.heap.size) #[.int .i64 0, .bool s1, .slice p1 k1 c1, .slice q1 l1 d1] := hX4.stores [.int .i64 0, .bool s1, .slice p1 k1 c1, .slice q1 l1 d1] rfl ⟨trivial, trivial, trivial, trivial, trivial⟩
              have hY5 : Box ((((v4.setCell ⟨v2.heap.size, 0, none⟩ (.int .i64 0)).setCell ⟨v2.heap.size, 1, none⟩ (.bool s1)).setCell ⟨v2.heap.size, 2, none⟩ (.slice p1 k1 c1)).setCell ⟨v2.heap.size, 3, none⟩ (.slice q1 l1 d1)) (v3.heap.size) _ := Box.stores_other (k := 0) (l := [.int .i64 0, .bool s1, .slice p1 k1 c1, .slice q1 l1 d1]) hY4 (by omega)
              have hG05 : Hid (FNorm ((((v4.setCell ⟨v2.heap.size, 0, none⟩ (.int .i64 0)).setCell ⟨v2.heap.size, 1, none⟩ (.bool s1)).setCell ⟨v2.heap.size, 2, none⟩ (.slice p1 k1 c1)).setCell ⟨v2.heap.size, 3, none⟩ (.slice q1 l1 d1)) (.agg #[.bool s1, .slice p1 k1 c1, .slice q1 l1 d1]) r1) := hid (FNorm.stores (k := 0) (l := [.int .i64 0, .bool s1, .slice p1 k1 c1, .slice q1 l1 d1]) hG04.out hX4 ⟨trivial, trivial, trivial, trivial, trivial⟩)
              have hG15 : Hid (FNorm ((((v4.setCell ⟨v2.heap.size, 0, none⟩ (.int .i64 0)).setCell ⟨v2.heap.size, 1, none⟩ (.bool s1)).setCell ⟨v2.heap.size, 2, none⟩ (.slice p1 k1 c1)).setCell ⟨v2.heap.size, 3, none⟩ (.slice q1 l1 d1)) (.agg #[.bool s2, .slice p2 k2 c2, .slice q2 l2 d2]) r2) := hid (FNorm.stores (k := 0) (l := [.int .i64 0, .bool s1, .slice p1 k1 c1, .slice q1 l1 d1]) hG14.out hX4 ⟨trivial, trivial, trivial, trivial, trivial⟩)
              have hz5 : ((((v4.setCell ⟨v2.heap.size, 0, none⟩ (.int .i64 0)).setCell ⟨v2.heap.size, 1, none⟩ (.bool s1)).setCell ⟨v2.heap.size, 2, none⟩ (.slice p1 k1 c1)).setCell ⟨v2.heap.size, 3, none⟩ (.slice q1 l1 d1)).heap.size = v4.heap.size := by simp
              have hz5 := Nat.le_of_eq hz5.symm
              generalize ((((v4.setCell ⟨v2.heap.size, 0, none⟩ (.int .i64 0)).setCell ⟨v2.heap.size, 1, none⟩ (.bool s1)).setCell ⟨v2.heap.size, 2, none⟩ (.slice p1 k1 c1)).setCell ⟨v2.heap.size, 3, none⟩ (.slice q1 l1 d1)) = v5 at *
              refine hK.out _ _ ?_ (fun hHeld => ?_)
              · exact HS.out _ hQ5
              clear hK K
              try simp only [Act.put, List.setIfInBounds_toArray, List.set_cons_zero, List.set_cons_succ]
              refine wpAnyH_ready (rs := [9]) (by kernel_rfl) (by simp) ?_
              refine AllReadyH.cons rfl (fun K hK => ?_) AllReadyH.nil
              · obtain ⟨g6_0, g6_1, g6_2, g6_3, g6_4, g6_5, g6_6, g6_7⟩ := hY5.cells4
                go_simp
                have hQ6 : QQ _ _ ((((v5.setCell ⟨v3.heap.size, 0, none⟩ (.int .i64 0)).setCell ⟨v3.heap.size, 1, none⟩ (.bool s2)).setCell ⟨v3.heap.size, 2, none⟩ (.slice p2 k2 c2)).setCell ⟨v3.heap.size, 3, none⟩ (.slice q2 l2 d2)) := QQ.stores (k := 0) (vs := [.int .i64 0, .bool s2, .slice p2 k2 c2, .slice q2 l2 d2]) hQ5 (ne1 (by omega)) (by omega)
                have hY6 : Box ((((v5.setCell ⟨v3.heap.size, 0, none⟩ (.int .i64 0)).setCell ⟨v3.heap.size, 1, none⟩ (.bool s2)).setCell ⟨v3.heap.size, 2, none⟩ (.slice p2 k2 c2)).setCell ⟨v3.heap.size, 3, none⟩ (.slice q2 l2 d2)) (v3.heap.size) #[.int .i64 0, .bool s2, .slice p2 k2 c2, .slice q2 l2 d2] := hY5.stores [.int .i64 0, .bool s2, .slice p2 k2 c2, .slice q2 l2 d2] rfl ⟨trivial, trivial, trivial, trivial, trivial⟩
                have hX6 : Box ((((v5.setCell ⟨v3.heap.size, 0, none⟩ (.int .i64 0)).setCell ⟨v3.heap.size, 1, none⟩ (.bool s2)).setCell ⟨v3.heap.size, 2, none⟩ (.slice p2 k2 c2)).setCell ⟨v3.heap.size, 3, none⟩ (.slice q2 l2 d2)) (v2.heap.size) _ := Box.stores_other (k := 0) (l := [.int .i64 0, .bool s2, .slice p2 k2 c2, .slice q2 l2 d2]) hX5 (by omega)
                have hG06 : Hid (FNorm ((((v5.setCell ⟨v3.heap.size, 0, none⟩ (.int .i64 0)).setCell ⟨v3.heap.size, 1, none⟩ (.bool s2)).setCell ⟨v3.heap.size, 2, none⟩ (.slice p2 k2 c2)).setCell ⟨v3.heap.size, 3, none⟩ (.slice q2 l2 d2)) (.agg #[.bool s1, .slice p1 k1 c1, .slice q1 l1 d1]) r1) := hid (FNorm.stores (k := 0) (l := [.int .i64 0, .bool s2, .slice p2 k2 c2, .slice q2 l2 d2]) hG05.out hY5 ⟨trivial, trivial, trivial, trivial, trivial⟩)
                have hG16 : Hid (FNorm ((((v5.setCell ⟨v3.heap.size, 0, none⟩ (.int .i64 0)).setCell ⟨v3.heap.size, 1, none⟩ (.bool s2)).setCell ⟨v3.heap.size, 2, none⟩ (.slice p2 k2 c2)).setCell ⟨v3.heap.size, 3, none⟩ (.slice q2 l2 d2)) (.agg #[.bool s2, .slice p2 k2 c2, .slice q2 l2 d2]) r2) := hid (FNorm.stores (k := 0) (l := [.int .i64 0, .bool s2, .slice p2 k2 c2, .slice q2 l2 d2]) hG15.out hY5 ⟨trivial, trivial, trivial, trivial, trivial⟩)
                have hz6 : ((((v5.setCell ⟨v3.heap.size, 0, none⟩ (.int .i64 0)).setCell ⟨v3.heap.size, 1, none⟩ (.bool s2)).setCell ⟨v3.heap.size, 2, none⟩ (.slice p2 k2 c2)).setCell ⟨v3.heap.size, 3, none⟩ (.slice q2 l2 d2)).heap.size = v5.heap.size := by simp
                have hz6 := Nat.le_of_eq hz6.symm
                generalize ((((v5.setCell ⟨v3.heap.size, 0, none⟩ (.int .i64 0)).setCell ⟨v3.heap.size, 1, none⟩ (.bool s2)).setCell ⟨v3.heap.size, 2, none⟩ (.slice p2 k2 c2)).setCell ⟨v3.heap.size, 3, none⟩ (.slice q2 l2 d2)) = v6 at *
                refine hK.out _ _ ?_ (fun hHeld => ?_)
                · exact HS.out _ hQ6
                clear hK K
                try simp only [Act.put, List.setIfInBounds_toArray, List.set_cons_zero, List.set_cons_succ]
                refine wpAnyH_done (by kernel_rfl) (NoPanic.normal ?_) _
                go_wp2_with fail
                go_meet
                exact ⟨v2.heap.size, v3.heap.size, s1, p1, k1, c1, q1, l1, d1, s2, p2, k2, c2, q2, l2, d2, rfl, rfl, by omega, hX6, hY6, hG06.out, hG16.out, hQ6.bel, by omega, by omega⟩
        · go_simp
          have hB7 : Below v2.heap.size v2 (v2.alloc (.cells #[.int .i64 0, .bool false, .slice none 0 0, .slice none 0 0] 59)) := (Below.refl _ _).alloc (Nat.le_refl _) _
          have hY7 := Box.mk' v2 [.int .i64 0, .bool false, .slice none 0 0, .slice none 0 0] 59 ⟨trivial, trivial, trivial, trivial, trivial⟩
          generalize v2.alloc (.cells #[.int .i64 0, .bool false, .slice none 0 0, .slice none 0 0] 59) = v7 at *
          have hQ7 := hQ2.call hB7
          have hz7 : v2.heap.size < v7.heap.size := hY7.lt
          have hG07 := hid (FNorm.below hG02.out hB7)
          have hG17 := hid (FNorm.below hF2.out hB7)
          refine hK.out _ _ ?_ (fun hHeld => ?_)
          · exact HS.out _ hQ7
          clear hK K
          try simp only [Act.put, List.setIfInBounds_toArray, List.set_cons_zero, List.set_cons_succ]
          refine wpAnyH_ready (rs := [6]) (by kernel_rfl) (by simp) ?_
          refine AllReadyH.cons rfl (fun K hK => ?_) AllReadyH.nil
          · go_simp
            have hB8 : Below v7.heap.size v7 (v7.alloc (.cells #[.int .i64 0, .bool false, .slice none 0 0, .slice none 0 0] 59)) := (Below.refl _ _).alloc (Nat.le_refl _) _
            have hX8 := Box.mk' v7 [.int .i64 0, .bool false, .slice none 0 0, .slice none 0 0] 59 ⟨trivial, trivial, trivial, trivial, trivial⟩
            generalize v7.alloc (.cells #[.int .i64 0, .bool false, .slice none 0 0, .slice none 0 0] 59) = v8 at *
            have hQ8 := hQ7.call hB8
            have hz8 : v7.heap.size < v8.heap.size := hX8.lt
            have hY8 := hY7.below hB8
            have hG08 := hid (FNorm.below hG07.out hB8)
            have hG18 := hid (FNorm.below hG17.out hB8)
            refine hK.out _ _ ?_ (fun hHeld => ?_)
            · exact HS.out _ hQ8
            clear hK K
            try simp only [Act.put, List.setIfInBounds_toArray, List.set_cons_zero, List.set_cons_succ]
            refine wpAnyH_ready (rs := [8]) (by kernel_rfl) (by simp) ?_
            refine AllReadyH.cons rfl (fun K hK => ?_) AllReadyH.nil
            · obtain ⟨g9_0, g9_1, g9_2, g9_3, g9_4, g9_5, g9_6, g9_7⟩ := hX8.cells4
              go_simp
              have hQ9 : QQ _ _ ((((v8.setCell ⟨v7.heap.size, 0, none⟩ (.int .i64 0)).setCell ⟨v7.heap.size, 1, none⟩ (.bool s1)).setCell ⟨v7.heap.size, 2, none⟩ (.slice p1 k1 c1)).setCell ⟨v7.heap.size, 3, none⟩ (.slice q1 l1 d1)) := QQ.stores (k := 0) (vs := [.int .i64 0, .bool s1, .slice p1 k1 c1, .slice q1 l1 d1]) hQ8 (ne1 (by omega)) (by omega)
              have hX9 : Box ((((v8.setCell ⟨v7.heap.size, 0, none⟩ (.int .i64 0)).setCell ⟨v7.heap.size, 1, none⟩ (.bool s1)).setCell ⟨v7.heap.size, 2, none⟩ (.slice p1 k1 c1)).setCell ⟨v7.heap.size, 3, none⟩ (.slice q1 l1 d1)) (v7.heap.size) #[.int .i64 0, .bool s1, .slice p1 k1 c1, .slice q1 l1 d1] := hX8.stores [.int .i64 0, .bool s1, .slice p1 k1 c1, .slice q1 l1 d1] rfl ⟨trivial, trivial, trivial, trivial, trivial⟩
              have hY9 : Box ((((v8.setCell ⟨v7.heap.size, 0, none⟩ (.int .i64 0)).setCell ⟨v7.heap.size, 1, none⟩ (.bool s1)).setCell ⟨v7.heap.size, 2, none⟩ (.slice p1 k1 c1)).setCell ⟨v7.heap.size, 3, none⟩ (.slice q1 l1 d1)) (v2.heap.size) _ := Box.stores_other (k := 0) (l := [.int .i64 0, .bool s1, .slice p1 k1 c1, .slice q1 l1 d1]) hY8 (by omega)
              have hG09 : Hid (FNorm ((((v8.setCell ⟨v7.heap.size, 0, none⟩ (.int .i64 0)).setCell ⟨v7.heap.size, 1, none⟩ (.bool s1)).setCell ⟨v7.heap.size, 2, none⟩ (.slice p1 k1 c1)).setCell ⟨v7.heap.size, 3, none⟩ (.slice q1 l1 d1)) (.agg #[.bool s1, .slice p1 k1 c1, .slice q1 l1 d1]) r1) := hid (FNorm.stores (k := 0) (l := [.int .i64 0, .bool s1, .slice p1 k1 c1, .slice q1 l1 d1]) hG08.out hX8 ⟨trivial, trivial, trivial, trivial, trivial⟩)
              have hG19 : Hid (FNorm ((((v8.setCell ⟨v7.heap.size, 0, none⟩ (.int .i64 0)).setCell ⟨v7.heap.size, 1, none⟩ (.bool s1)).setCell ⟨v7.heap.size, 2, none⟩ (.slice p1 k1 c1)).setCell ⟨v7.heap.size, 3, none⟩ (.slice q1 l1 d1)) (.agg #[.bool s2, .slice p2 k2 c2, .slice q2 l2 d2]) r2) := hid (FNorm.stores (k := 0) (l := [.int .i64 0, .bool s1, .slice p1 k1 c1, .slice q1 l1 d1]) hG18.out hX8 ⟨trivial, trivial, trivial, trivial, trivial⟩)
              have hz9 : ((((v8.setCell ⟨v7.heap.size, 0, none⟩ (.int .i64 0)).setCell ⟨v7.heap.size, 1, none⟩ (.bool s1)).setCell ⟨v7.heap.size, 2, none⟩ (.slice p1 k1 c1)).setCell ⟨v7.heap.size, 3, none⟩ (.slice q1 l1 d1)).heap.size = v8.heap.size := by simp
              have hz9 := Nat.le_of_eq hz9.symm
              generalize ((((v8.setCell ⟨v7.heap.size, 0, none⟩ (.int .i64 0)).setCell ⟨v7.heap.size, 1, none⟩ (.bool s1)).setCell ⟨v7.heap.size, 2, none⟩ (.slice p1 k1 c1)).setCell ⟨v7.heap.size, 3, none⟩ (.slice q1 l1 d1)) = v9 at *
              refine hK.out _ _ ?_ (fun hHeld => ?_)
              · exact HS.out _ hQ9
              clear hK K
              try simp only [Act.put, List.setIfInBounds_toArray, List.set_cons_zero, List.set_cons_succ]
              refine wpAnyH_ready (rs := [9]) (by kernel_rfl) (by simp) ?_
              refine AllReadyH.cons rfl (fun K hK => ?_) AllReadyH.nil
              · obtain ⟨g10_0, g10_1, g10_2, g10_3, g10_4, g10_5, g10_6, g10_7⟩ := hY9.cells4
                go_simp
                have hQ10 : QQ _ _ ((((v9.setCell ⟨v2.heap.size, 0, none⟩ (.int .i64 0)).setCell ⟨v2.heap.size, 1, none⟩ (.bool s2)).setCell ⟨v2.heap.size, 2, none⟩ (.slice p2 k2 c2)).setCell ⟨v2.heap.size, 3, none⟩ (.slice q2 l2 d2)) := QQ.stores (k := 0) (vs := [.int .i64 0, .bool s2, .slice p2 k2 c2, .slice q2 l2 d2]) hQ9 (ne1 (by omega)) (by omega)
                have hY10 : Box ((((v9.setCell ⟨v2.heap.size, 0, none⟩ (.int .i64 0)).setCell ⟨v2.heap.size, 1, none⟩ (.bool s2)).setCell ⟨v2.heap.size, 2, none⟩ (.slice p2 k2 c2)).setCell ⟨v2.heap.size, 3, none⟩ (.slice q2 l2 d2)) (v2.heap.size) #[.int .i64 0, .bool s2, .slice p2 k2 c2, .slice q2 l2 d2] := hY9.stores [.int .i64 0, .bool s2, .slice p2 k2 c2, .slice q2 l2 d2] rfl ⟨trivial, trivial, trivial, trivial, trivial⟩
                have hX10 : Box ((((v9.setCell ⟨v2.heap.size, 0, none⟩ (.int .i64 0)).setCell ⟨v2.heap.size, 1, none⟩ (.bool s2)).setCell ⟨v2.heap.size, 2, none⟩ (.slice p2 k2 c2)).setCell ⟨v2.heap.size, 3, none⟩ (.slice q2 l2 d2)) (v7.heap.size) _ := Box.stores_other (k := 0) (l := [.int .i64 0, .bool s2, .slice p2 k2 c2, .slice q2 l2 d2]) hX9 (by omega)
                have hG010 : Hid (FNorm ((((v9.setCell ⟨v2.heap.size, 0, none⟩ (.int .i64 0)).setCell ⟨v2.heap.size, 1, none⟩ (.bool s2)).setCell ⟨v2.heap.size, 2, none⟩ (.slice p2 k2 c2)).setCell ⟨v2.heap.size, 3, none⟩ (.slice q2 l2 d2)) (.agg #[.bool s1, .slice p1 k1 c1, .slice q1 l1 d1]) r1) := hid (FNorm.stores (k := 0) (l := [.int .i64 0, .bool s2, .slice p2 k2 c2, .slice q2 l2 d2]) hG09.out hY9 ⟨trivial, trivial, trivial, trivial, trivial⟩)
                have hG110 : Hid (FNorm ((((v9.setCell ⟨v2.heap.size, 0, none⟩ (.int .i64 0)).setCell ⟨v2.heap.size, 1, none⟩ (.bool s2)).setCell ⟨v2.heap.size, 2, none⟩ (.slice p2 k2 c2)).setCell ⟨v2.heap.size, 3, none⟩ (.slice q2 l2 d2)) (.agg #[.bool s2, .slice p2 k2 c2, .slice q2 l2 d2]) r2) := hid (FNorm.stores (k := 0) (l := [.int .i64 0, .bool s2, .slice p2 k2 c2, .slice q2 l2 d2]) hG19.out hY9 ⟨trivial, trivial, trivial, trivial, trivial⟩)
                have hz10 : ((((v9.setCell ⟨v2.heap.size, 0, none⟩ (.int .i64 0)).setCell ⟨v2.heap.size, 1, none⟩ (.bool s2)).setCell ⟨v2.heap.size, 2, none⟩ (.slice p2 k2 c2)).setCell ⟨v2.heap.size, 3, none⟩ (.slice q2 l2 d2)).heap.size = v9.heap.size := by simp
                have hz10 := Nat.le_of_eq hz10.symm
                generalize ((((v9.setCell ⟨v2.heap.size, 0, none⟩ (.int .i64 0)).setCell ⟨v2.heap.size, 1, none⟩ (.bool s2)).setCell ⟨v2.heap.size, 2, none⟩ (.slice p2 k2 c2)).setCell ⟨v2.heap.size, 3, none⟩ (.slice q2 l2 d2)) = v10 at *
                refine hK.out _ _ ?_ (fun hHeld => ?_)
                · exact HS.out _ hQ10
                clear hK K
                try simp only [Act.put, List.setIfInBounds_toArray, List.set_cons_zero, List.set_cons_succ]
                refine wpAnyH_done (by kernel_rfl) (NoPanic.normal ?_) _
                go_wp2_with fail
                go_meet
                exact ⟨v7.heap.size, v2.heap.size, s1, p1, k1, c1, q1, l1, d1, s2, p2, k2, c2, q2, l2, d2, rfl, rfl, by omega, hX10, hY10, hG010.out, hG110.out, hQ10.bel, by omega, by omega⟩
      · go_simp
        have hB11 : Below v1.heap.size v1 (v1.alloc (.cells #[.int .i64 0, .bool false, .slice none 0 0, .slice none 0 0] 59)) := (Below.refl _ _).alloc (Nat.le_refl _) _
        have hX11 := Box.mk' v1 [.int .i64 0, .bool false, .slice none 0 0, .slice none 0 0] 59 ⟨trivial, trivial, trivial, trivial, trivial⟩
        generalize v1.alloc (.cells #[.int .i64 0, .bool false, .slice none 0 0, .slice none 0 0] 59) = v11 at *
        have hQ11 := hQ1.call hB11
        have hz11 : v1.heap.size < v11.heap.size := hX11.lt
        have hG011 := hid (FNorm.below hF1.out hB11)
        refine hK.out _ _ ?_ (fun hHeld => ?_)
        · exact HS.out _ hQ11
        clear hK K
        try simp only [Act.put, List.setIfInBounds_toArray, List.set_cons_zero, List.set_cons_succ]
        refine wpAnyH_ready (rs := [5, 7]) (by kernel_rfl) (by simp) ?_
        refine AllReadyH.cons rfl (fun K hK => ?_) (AllReadyH.cons rfl (fun K hK => ?_) AllReadyH.nil)
        · go_simp
          go_at_call 57
          refine (HR2.out _ (HV.out.2.2.trans (hQ11.bel.mono HV.out.2.2.size))).mono ?_
          rintro e v12 ⟨s2, p2, k2, c2, q2, l2, d2, rfl, hF12, hB12⟩
          have hQ12 := hQ11.call hB12
          have hz12 : v11.heap.size ≤ v12.heap.size := hB12.size
          have hX12 := hX11.below hB12
          have hG012 := hid (FNorm.below hG011.out hB12)
          go_wp2_with fail
          refine hK.out _ _ ?_ (fun hHeld => ?_)
          · exact HS.out _ hQ12
          clear hK K
          try simp only [Act.put, List.setIfInBounds_toArray, List.set_cons_zero, List.set_cons_succ]
          refine wpAnyH_ready (rs := [7]) (by kernel_rfl) (by simp) ?_
          refine AllReadyH.cons rfl (fun K hK => ?_) AllReadyH.nil
          · go_simp
            have hB13 : Below v12.heap.size v12 (v12.alloc (.cells #[.int .i64 0, .bool false, .slice none 0 0, .slice none 0 0] 59)) := (Below.refl _ _).alloc (Nat.le_refl _) _
            have hY13 := Box.mk' v12 [.int .i64 0, .bool false, .slice none 0 0, .slice none 0 0] 59 ⟨trivial, trivial, trivial, trivial, trivial⟩
            generalize v12.alloc (.cells #[.int .i64 0, .bool false, .slice none 0 0, .slice none 0 0] 59) = v13 at *
            have hQ13 := hQ12.call hB13
            have hz13 : v12.heap.size < v13.heap.size := hY13.lt
            have hX13 := hX12.below hB13
            have hG013 := hid (FNorm.below hG012.out hB13)
            have hG113 := hid (FNorm.below hF12.out hB13)
            refine hK.out _ _ ?_ (fun hHeld => ?_)
            · exact HS.out _ hQ13
            clear hK K
            try simp only [Act.put, List.setIfInBounds_toArray, List.set_cons_zero, List.set_cons_succ]
            refine wpAnyH_ready (rs := [8]) (by kernel_rfl) (by simp) ?_
            refine AllReadyH.cons rfl (fun K hK => ?_) AllReadyH.nil
            · obtain ⟨g14_0, g14_1, g14_2, g14_3, g14_4, g14_5, g14_6, g14_7⟩ := hX13.cells4
              go_simp
              have hQ14 : QQ _ _ ((((v13.setCell ⟨v1.heap.size, 0, none⟩ (.int .i64 0)).setCell ⟨v1.heap.size, 1, none⟩ (.bool s1)).setCell ⟨v1.heap.size, 2, none⟩ (.slice p1 k1 c1)).setCell ⟨v1.heap.size, 3, none⟩ (.slice q1 l1 d1)) := QQ.stores (k := 0) (vs := [.int .i64 0, .bool s1, .slice p1 k1 c1, .slice q1 l1 d1]) hQ13 (ne1 (by omega)) (by omega)
              have hX14 : Box ((((v13.setCell ⟨v1.heap.size, 0, none⟩ (.int .i64 0)).setCell ⟨v1.heap.size, 1, none⟩ (.bool s1)).setCell ⟨v1.heap.size, 2, none⟩ (.slice p1 k1 c1)).setCell ⟨v1.heap.size, 3, none⟩ (.slice q1 l1 d1)) (v1.heap.size) #[.int .i64 0, .bool s1, .slice p1 k1 c1, .slice q1 l1 d1] := hX13.stores [.int .i64 0, .bool s1, .slice p1 k1 c1, .slice q1 l1 d1] rfl ⟨trivial, trivial, trivial, trivial, trivial⟩
              have hY14 : Box ((((v13.setCell ⟨v1.heap.size, 0, none⟩ (.int .i64 0)).setCell ⟨v1.heap.size, 1, none⟩ (.bool s1)).setCell ⟨v1.heap.size, 2, none⟩ (.slice p1 k1 c1)).setCell ⟨v1.heap.size, 3, none⟩ (.slice q1 l1 d1)) (v12.heap.size) _ := Box.stores_other (k := 0) (l := [.int .i64 0, .bool s1, .slice p1 k1 c1, .slice q1 l1 d1]) hY13 (by omega)
              have hG014 : Hid (FNorm ((((v13.setCell ⟨v1.heap.size, 0, none⟩ (.int .i64 0)).setCell ⟨v1.heap.size, 1, none⟩ (.bool s1)).setCell ⟨v1.heap.size, 2, none⟩ (.slice p1 k1 c1)).setCell ⟨v1.heap.size, 3, none⟩ (.slice q1 l1 d1)) (.agg #[.bool s1, .slice p1 k1 c1, .slice q1 l1 d1]) r1) := hid (FNorm.stores (k := 0) (l := [.int .i64 0, .bool s1, .slice p1 k1 c1, .slice q1 l1 d1]) hG013.out hX13 ⟨trivial, trivial, trivial, trivial, trivial⟩)
              have hG114 : Hid (FNorm ((((v13.setCell ⟨v1.heap.size, 0, none⟩ (.int .i64 0)).setCell ⟨v1.heap.size, 1, none⟩ (.bool s1)).setCell ⟨v1.heap.size, 2, none⟩ (.slice p1 k1 c1)).setCell ⟨v1.heap.size, 3, none⟩ (.slice q1 l1 d1)) (.agg #[.bool s2, .slice p2 k2 c2, .slice q2 l2 d2]) r2) := hid (FNorm.stores (k := 0) (l := [.int .i64 0, .bool s1, .slice p1 k1 c1, .slice q1 l1 d1]) hG113.out hX13 ⟨trivial, trivial, trivial, trivial, trivial⟩)
              have hz14 : ((((v13.setCell ⟨v1.heap.size, 0, none⟩ (.int .i64 0)).setCell ⟨v1.heap.size, 1, none⟩ (.bool s1)).setCell ⟨v1.heap.size, 2, none⟩ (.slice p1 k1 c1)).setCell ⟨v1.heap.size, 3, none⟩ (.slice q1 l1 d1)).heap.size = v13.heap.size := by simp
              have hz14 := Nat.le_of_eq hz14.symm
              generalize ((((v13.setCell ⟨v1.heap.size, 0, none⟩ (.int .i64 0)).setCell ⟨v1.heap.size, 1, none⟩ (.bool s1)).setCell ⟨v1.heap.size, 2, none⟩ (.slice p1 k1 c1)).setCell ⟨v1.heap.size, 3, none⟩ (.slice q1 l1 d1)) = v14 at *
              refine hK.out _ _ ?_ (fun hHeld => ?_)
              · exact HS.out _ hQ14
              clear hK K
              try simp only [Act.put, List.setIfInBounds_toArray, List.set_cons_zero, List.set_cons_succ]
              refine wpAnyH_ready (rs := [9]) (by kernel_rfl) (by simp) ?_
              refine AllReadyH.cons rfl (fun K hK => ?_) AllReadyH.nil
              · obtain ⟨g15_0, g15_1, g15_2, g15_3, g15_4, g15_5, g15_6, g15_7⟩ := hY14.cells4
                go_simp
                have hQ15 : QQ _ _ ((((v14.setCell ⟨v12.heap.size, 0, none⟩ (.int .i64 0)).setCell ⟨v12.heap.size, 1, none⟩ (.bool s2)).setCell ⟨v12.heap.size, 2, none⟩ (.slice p2 k2 c2)).setCell ⟨v12.heap.size, 3, none⟩ (.slice q2 l2 d2)) := QQ.stores (k := 0) (vs := [.int .i64 0, .bool s2, .slice p2 k2 c2, .slice q2 l2 d2]) hQ14 (ne1 (by omega)) (by omega)
                have hY15 : Box ((((v14.setCell ⟨v12.heap.size, 0, none⟩ (.int .i64 0)).setCell ⟨v12.heap.size, 1, none⟩ (.bool s2)).setCell ⟨v12.heap.size, 2, none⟩ (.slice p2 k2 c2)).setCell ⟨v12.heap.size, 3, none⟩ (.slice q2 l2 d2)) (v12.heap.size) #[.int .i64 0, .bool s2, .slice p2 k2 c2, .slice q2 l2 d2] := hY14.stores [.int .i64 0, .bool s2, .slice p2 k2 c2, .slice q2 l2 d2] rfl ⟨trivial, trivial, trivial, trivial, trivial⟩
                have hX15 : Box ((((v14.setCell ⟨v12.heap.size, 0, none⟩ (.int .i64 0)).setCell ⟨v12.heap.size, 1, none⟩ (.bool s2)).setCell ⟨v12.heap.size, 2, none⟩ (.slice p2 k2 c2)).setCell ⟨v12.heap.size, 3, none⟩ (.slice q2 l2 d2)) (v1.heap.size) _ := Box.stores_other (k := 0) (l := [.int .i64 0, .bool s2, .slice p2 k2 c2, .slice q2 l2 d2]) hX14 (by omega)
                have hG015 : Hid (FNorm ((((v14.setCell ⟨v12.heap.size, 0, none⟩ (.int .i64 0)).setCell ⟨v12.heap.size, 1, none⟩ (.bool s2)).setCell ⟨v12.heap.size, 2, none⟩ (.slice p2 k2 c2)).setCell ⟨v12.heap.size, 3, none⟩ (.slice q2 l2 d2)) (.agg #[.bool s1, .slice p1 k1 c1, .slice q1 l1 d1]) r1) := hid (FNorm.stores (k := 0) (l := [.int .i64 0, .bool s2, .slice p2 k2 c2, .slice q2 l2 d2]) hG014.out hY14 ⟨trivial, trivial, trivial, trivial, trivial⟩)
                have hG115 : Hid (FNorm ((((v14.setCell ⟨v12.heap.size, 0, none⟩ (.int .i64 0)).setCell ⟨v12.heap.size, 1, none⟩ (.bool s2)).setCell ⟨v12.heap.size, 2, none⟩ (.slice p2 k2 c2)).setCell ⟨v12.heap.size, 3, none⟩ (.slice q2 l2 d2)) (.agg #[.bool s2, .slice p2 k2 c2, .slice q2 l2 d2]) r2) := hid (FNorm.stores (k := 0) (l := [.int .i64 0, .bool s2, .slice p2 k2 c2, .slice q2 l2 d2]) hG114.out hY14 ⟨trivial, trivial, trivial, trivial, trivial⟩)
                have hz15 : ((((v14.setCell ⟨v12.heap.size, 0, none⟩ (.int .i64 0)).setCell ⟨v12.heap.size, 1, none⟩ (.bool s2)).setCell ⟨v12.heap.size, 2, none⟩ (.slice p2 k2 c2)).setCell ⟨v12.heap.size, 3, none⟩ (.slice q2 l2 d2)).heap.size = v14.heap.size := by simp
                have hz15 := Nat.le_of_eq hz15.symm
                generalize ((((v14.setCell ⟨v12.heap.size, 0, none⟩ (.int .i64 0)).setCell ⟨v12.heap.size, 1, none⟩ (.bool s2)).setCell ⟨v12.heap.size, 2, none⟩ (.slice p2 k2 c2)).setCell ⟨v12.heap.size, 3, none⟩ (.slice q2 l2 d2)) = v15 at *
                refine hK.out _ _ ?_ (fun hHeld => ?_)
                · exact HS.out _ hQ15
                clear hK K
                try simp only [Act.put, List.setIfInBounds_toArray, List.set_cons_zero, List.set_cons_succ]
                refine wpAnyH_done (by kernel_rfl) (NoPanic.normal ?_) _
                go_wp2_with fail
                go_meet
                exact ⟨v1.heap.size, v12.heap.size, s1, p1, k1, c1, q1, l1, d1, s2, p2, k2, c2, q2, l2, d2, rfl, rfl, by omega, hX15, hY15, hG015.out, hG115.out, hQ15.bel, by omega, by omega⟩
        · go_simp
          have hB16 : Below v11.heap.size v11 (v11.alloc (.cells #[.int .i64 0, .bool false, .slice none 0 0, .slice none 0 0] 59)) := (Below.refl _ _).alloc (Nat.le_refl _) _
          have hY16 := Box.mk' v11 [.int .i64 0, .bool false, .slice none 0 0, .slice none 0 0] 59 ⟨trivial, trivial, trivial, trivial, trivial⟩
          generalize v11.alloc (.cells #[.int .i64 0, .bool false, .slice none 0 0, .slice none 0 0] 59) = v16 at *
          have hQ16 := hQ11.call hB16
          have hz16 : v11.heap.size < v16.heap.size := hY16.lt
          have hX16 := hX11.below hB16
          have hG016 := hid (FNorm.below hG011.out hB16)
          refine hK.out _ _ ?_ (fun hHeld => ?_)
          · exact HS.out _ hQ16
          clear hK K
          try simp only [Act.put, List.setIfInBounds_toArray, List.set_cons_zero, List.set_cons_succ]
          refine wpAnyH_ready (rs := [5]) (by kernel_rfl) (by simp) ?_
          refine AllReadyH.cons rfl (fun K hK => ?_) AllReadyH.nil
          · go_simp
            go_at_call 57
            refine (HR2.out _ (HV.out.2.2.trans (hQ16.bel.mono HV.out.2.2.size))).mono ?_
            rintro e v17 ⟨s2, p2, k2, c2, q2, l2, d2, rfl, hF17, hB17⟩
            have hQ17 := hQ16.call hB17
            have hz17 : v16.heap.size ≤ v17.heap.size := hB17.size
            have hX17 := hX16.below hB17
            have hY17 := hY16.below hB17
            have hG017 := hid (FNorm.below hG016.out hB17)
            go_wp2_with fail
            refine hK.out _ _ ?_ (fun hHeld => ?_)
            · exact HS.out _ hQ17
            clear hK K
            try simp only [Act.put, List.setIfInBounds_toArray, List.set_cons_zero, List.set_cons_succ]
            refine wpAnyH_ready (rs := [8]) (by kernel_rfl) (by simp) ?_
            refine AllReadyH.cons rfl (fun K hK => ?_) AllReadyH.nil
            · obtain ⟨g18_0, g18_1, g18_2, g18_3, g18_4, g18_5, g18_6, g18_7⟩ := hX17.cells4
              go_simp
              have hQ18 : QQ _ _ ((((v17.setCell ⟨v1.heap.size, 0, none⟩ (.int .i64 0)).setCell ⟨v1.heap.size, 1, none⟩ (.bool s1)).setCell ⟨v1.heap.size, 2, none⟩ (.slice p1 k1 c1)).setCell ⟨v1.heap.size, 3, none⟩ (.slice q1 l1 d1)) := QQ.stores (k := 0) (vs := [.int .i64 0, .bool s1, .slice p1 k1 c1, .slice q1 l1 d1]) hQ17 (ne1 (by omega)) (by omega)
              have hX18 : Box ((((v17.setCell ⟨v1.heap.size, 0, none⟩ (.int .i64 0)).setCell ⟨v1.heap.size, 1, none⟩ (.bool s1)).setCell ⟨v1.heap.size, 2, none⟩ (.slice p1 k1 c1)).setCell ⟨v1.heap.size, 3, none⟩ (.slice q1 l1 d1)) (v1.heap.size) #[.int .i64 0, .bool s1, .slice p1 k1 c1, .slice q1 l1 d1] := hX17.stores [.int .i64 0, .bool s1, .slice p1 k1 c1, .slice q1 l1 d1] rfl ⟨trivial, trivial, trivial, trivial, trivial⟩
              have hY18 : Box ((((v17.setCell ⟨v1.heap.size, 0, none⟩ (.int .i64 0)).setCell ⟨v1.heap.size, 1, none⟩ (.bool s1)).setCell ⟨v1.heap.size, 2, none⟩ (.slice p1 k1 c1)).setCell ⟨v1.heap.size, 3, none⟩ (.slice q1 l1 d1)) (v11.heap.size) _ := Box.stores_other (k := 0) (l := [.int .i64 0, .bool s1, .slice p1 k1 c1, .slice q1 l1 d1]) hY17 (by omega)
              have hG018 : Hid (FNorm ((((v17.setCell ⟨v1.heap.size, 0, none⟩ (.int .i64 0)).setCell ⟨v1.heap.size, 1, none⟩ (.bool s1)).setCell ⟨v1.heap.size, 2, none⟩ (.slice p1 k1 c1)).setCell ⟨v1.heap.size, 3, none⟩ (.slice q1 l1 d1)) (.agg #[.bool s1, .slice p1 k1 c1, .slice q1 l1 d1]) r1) := hid (FNorm.stores (k := 0) (l := [.int .i64 0, .bool s1, .slice p1 k1 c1, .slice q1 l1 d1]) hG017.out hX17 ⟨trivial, trivial, trivial, trivial, trivial⟩)
              have hG118 : Hid (FNorm ((((v17.setCell ⟨v1.heap.size, 0, none⟩ (.int .i64 0)).setCell ⟨v1.heap.size, 1, none⟩ (.bool s1)).setCell ⟨v1.heap.size, 2, none⟩ (.slice p1 k1 c1)).setCell ⟨v1.heap.size, 3, none⟩ (.slice q1 l1 d1)) (.agg #[.bool s2, .slice p2 k2 c2, .slice q2 l2 d2]) r2) := hid (FNorm.stores (k := 0) (l := [.int .i64 0, .bool s1, .slice p1 k1 c1, .slice q1 l1 d1]) hF17.out hX17 ⟨trivial, trivial, trivial, trivial, trivial⟩)
              have hz18 : ((((v17.setCell ⟨v1.heap.size, 0, none⟩ (.int .i64 0)).setCell ⟨v1.heap.size, 1, none⟩ (.bool s1)).setCell ⟨v1.heap.size, 2, none⟩ (.slice p1 k1 c1)).setCell ⟨v1.heap.size, 3, none⟩ (.slice q1 l1 d1)).heap.size = v17.heap.size := by simp
              have hz18 := Nat.le_of_eq hz18.symm
              generalize ((((v17.setCell ⟨v1.heap.size, 0, none⟩ (.int .i64 0)).setCell ⟨v1.heap.size, 1, none⟩ (.bool s1)).setCell ⟨v1.heap.size, 2, none⟩ (.slice p1 k1 c1)).setCell ⟨v1.heap.size, 3, none⟩ (.slice q1 l1 d1)) = v18 at *
              refine hK.out _ _ ?_ (fun hHeld => ?_)
              · exact HS.out _ hQ18
              clear hK K
              try simp only [Act.put, List.setIfInBounds_toArray, List.set_cons_zero, List.set_cons_succ]
              refine wpAnyH_ready (rs := [9]) (by kernel_rfl) (by simp) ?_
              refine AllReadyH.cons rfl (fun K hK => ?_) AllReadyH.nil
              · obtain ⟨g19_0, g19_1, g19_2, g19_3, g19_4, g19_5, g19_6, g19_7⟩ := hY18.cells4
                go_simp
                have hQ19 : QQ _ _ ((((v18.setCell ⟨v11.heap.size, 0, none⟩ (.int .i64 0)).setCell ⟨v11.heap.size, 1, none⟩ (.bool s2)).setCell ⟨v11.heap.size, 2, none⟩ (.slice p2 k2 c2)).setCell ⟨v11.heap.size, 3, none⟩ (.slice q2 l2 d2)) := QQ.stores (k := 0) (vs := [.int .i64 0, .bool s2, .slice p2 k2 c2, .slice q2 l2 d2]) hQ18 (ne1 (by omega)) (by omega)
                have hY19 : Box ((((v18.setCell ⟨v11.heap.size, 0, none⟩ (.int .i64 0)).setCell ⟨v11.heap.size, 1, none⟩ (.bool s2)).setCell ⟨v11.heap.size, 2, none⟩ (.slice p2 k2 c2)).setCell ⟨v11.heap.size, 3, none⟩ (.slice q2 l2 d2)) (v11.heap.size) #[.int .i64 0, .bool s2, .slice p2 k2 c2, .slice q2 l2 d2] := hY18.stores [.int .i64 0, .bool s2, .slice p2 k2 c2, .slice q2 l2 d2] rfl ⟨trivial, trivial, trivial, trivial, trivial⟩
                have hX19 : Box ((((v18.setCell ⟨v11.heap.size, 0, none⟩ (.int .i64 0)).setCell ⟨v11.heap.size, 1, none⟩ (.bool s2)).setCell ⟨v11.heap.size, 2, none⟩ (.slice p2 k2 c2)).setCell ⟨v11.heap.size, 3, none⟩ (.slice q2 l2 d2)) (v1.heap.size) _ := Box.stores_other (k := 0) (l := [.int .i64 0, .bool s2, .slice p2 k2 c2, .slice q2 l2 d2]) hX18 (by omega)
                have hG019 : Hid (FNorm ((((v18.setCell ⟨v11.heap.size, 0, none⟩ (.int .i64 0)).setCell ⟨v11.heap.size, 1, none⟩ (.bool s2)).setCell ⟨v11.heap.size, 2, none⟩ (.slice p2 k2 c2)).setCell ⟨v11.heap.size, 3, none⟩ (.slice q2 l2 d2)) (.agg #[.bool s1, .slice p1 k1 c1, .slice q1 l1 d1]) r1) := hid (FNorm.stores (k := 0) (l := [.int .i64 0, .bool s2, .slice p2 k2 c2, .slice q2 l2 d2]) hG018.out hY18 ⟨trivial, trivial, trivial, trivial, trivial⟩)
                have hG119 : Hid (FNorm ((((v18.setCell ⟨v11.heap.size, 0, none⟩ (.int .i64 0)).setCell ⟨v11.heap.size, 1, none⟩ (.bool s2)).setCell ⟨v11.heap.size, 2, none⟩ (.slice p2 k2 c2)).setCell ⟨v11.heap.size, 3, none⟩ (.slice q2 l2 d2)) (.agg #[.bool s2, .slice p2 k2 c2, .slice q2 l2 d2]) r2) := hid (FNorm.stores (k := 0) (l := [.int .i64 0, .bool s2, .slice p2 k2 c2, .slice q2 l2 d2]) hG118.out hY18 ⟨trivial, trivial, trivial, trivial, trivial⟩)
                have hz19 : ((((v18.setCell ⟨v11.heap.size, 0, none⟩ (.int .i64 0)).setCell ⟨v11.heap.size, 1, none⟩ (.bool s2)).setCell ⟨v11.heap.size, 2, none⟩ (.slice p2 k2 c2)).setCell ⟨v11.heap.size, 3, none⟩ (.slice q2 l2 d2)).heap.size = v18.heap.size := by simp
                have hz19 := Nat.le_of_eq hz19.symm
                generalize ((((v18.setCell ⟨v11.heap.size, 0, none⟩ (.int .i64 0)).setCell ⟨v11.heap.size, 1, none⟩ (.bool s2)).setCell ⟨v11.heap.size, 2, none⟩ (.slice p2 k2 c2)).setCell ⟨v11.heap.size, 3, none⟩ (.slice q2 l2 d2)) = v19 at *
                refine hK.out _ _ ?_ (fun hHeld => ?_)
                · exact HS.out _ hQ19
                clear hK K
                try simp only [Act.put, List.setIfInBounds_toArray, List.set_cons_zero, List.set_cons_succ]
                refine wpAnyH_done (by kernel_rfl) (NoPanic.normal ?_) _
                go_wp2_with fail
                go_meet
                exact ⟨v1.heap.size, v11.heap.size, s1, p1, k1, c1, q1, l1, d1, s2, p2, k2, c2, q2, l2, d2, rfl, rfl, by omega, hX19, hY19, hG019.out, hG119.out, hQ19.bel, by omega, by omega⟩
      · go_simp
        have hB20 : Below v1.heap.size v1 (v1.alloc (.cells #[.int .i64 0, .bool false, .slice none 0 0, .slice none 0 0] 59)) := (Below.refl _ _).alloc (Nat.le_refl _) _
        have hY20 := Box.mk' v1 [.int .i64 0, .bool false, .slice none 0 0, .slice none 0 0] 59 ⟨trivial, trivial, trivial, trivial, trivial⟩
        generalize v1.alloc (.cells #[.int .i64 0, .bool false, .slice none 0 0, .slice none 0 0] 59) = v20 at *
        have hQ20 := hQ1.call hB20
        have hz20 : v1.heap.size < v20.heap.size := hY20.lt
        have hG020 := hid (FNorm.below hF1.out hB20)
        refine hK.out _ _ ?_ (fun hHeld => ?_)
        · exact HS.out _ hQ20
        clear hK K
        try simp only [Act.put, List.setIfInBounds_toArray, List.set_cons_zero, List.set_cons_succ]
        refine wpAnyH_ready (rs := [5, 6]) (by kernel_rfl) (by simp) ?_
        refine AllReadyH.cons rfl (fun K hK => ?_) (AllReadyH.cons rfl (fun K hK => ?_) AllReadyH.nil)
        · go_simp
          go_at_call 57
          refine (HR2.out _ (HV.out.2.2.trans (hQ20.bel.mono HV.out.2.2.size))).mono ?_
          rintro e v21 ⟨s2, p2, k2, c2, q2, l2, d2, rfl, hF21, hB21⟩
          have hQ21 := hQ20.call hB21
          have hz21 : v20.heap.size ≤ v21.heap.size := hB21.size
          have hY21 := hY20.below hB21
          have hG021 := hid (FNorm.below hG020.out hB21)
          go_wp2_with fail
          refine hK.out _ _ ?_ (fun hHeld => ?_)
          · exact HS.out _ hQ21
          clear hK K
          try simp only [Act.put, List.setIfInBounds_toArray, List.set_cons_zero, List.set_cons_succ]
          refine wpAnyH_ready (rs := [6]) (by kernel_rfl) (by simp) ?_
          refine AllReadyH.cons rfl (fun K hK => ?_) AllReadyH.nil
          · go_simp
            have hB22 : Below v21.heap.size v21 (v21.alloc (.cells #[.int .i64 0, .bool false, .slice none 0 0, .slice none 0 0] 59)) := (Below.refl _ _).alloc (Nat.le_refl _) _
            have hX22 := Box.mk' v21 [.int .i64 0, .bool false, .slice none 0 0, .slice none 0 0] 59 ⟨trivial, trivial, trivial, trivial, trivial⟩
            generalize v21.alloc (.cells #[.int .i64 0, .bool false, .slice none 0 0, .slice none 0 0] 59) = v22 at *
            have hQ22 := hQ21.call hB22
            have hz22 : v21.heap.size < v22.heap.size := hX22.lt
            have hY22 := hY21.below hB22
            have hG022 := hid (FNorm.below hG021.out hB22)
            have hG122 := hid (FNorm.below hF21.out hB22)
            refine hK.out _ _ ?_ (fun hHeld => ?_)
            · exact HS.out _ hQ22
            clear hK K
            try simp only [Act.put, List.setIfInBounds_toArray, List.set_cons_zero, List.set_cons_succ]
            refine wpAnyH_ready (rs := [8]) (by kernel_rfl) (by simp) ?_
            refine AllReadyH.cons rfl (fun K hK => ?_) AllReadyH.nil
            · obtain ⟨g23_0, g23_1, g23_2, g23_3, g23_4, g23_5, g23_6, g23_7⟩ := hX22.cells4
              go_simp
              have hQ23 : QQ _ _ ((((v22.setCell ⟨v21.heap.size, 0, none⟩ (.int .i64 0)).setCell ⟨v21.heap.size, 1, none⟩ (.bool s1)).setCell ⟨v21.heap.size, 2, none⟩ (.slice p1 k1 c1)).setCell ⟨v21.heap.size, 3, none⟩ (.slice q1 l1 d1)) := QQ.stores (k := 0) (vs := [.int .i64 0, .bool s1, .slice p1 k1 c1, .slice q1 l1 d1]) hQ22 (ne1 (by omega)) (by omega)
              have hX23 : Box ((((v22.setCell ⟨v21.heap.size, 0, none⟩ (.int .i64 0)).setCell ⟨v21.heap.size, 1, none⟩ (.bool s1)).setCell ⟨v21.heap.size, 2, none⟩ (.slice p1 k1 c1)).setCell ⟨v21.heap.size, 3, none⟩ (.slice q1 l1 d1)) (v21.heap.size) #[.int .i64 0, .bool s1, .slice p1 k1 c1, .slice q1 l1 d1] := hX22.stores [.int .i64 0, .bool s1, .slice p1 k1 c1, .slice q1 l1 d1] rfl ⟨trivial, trivial, trivial, trivial, trivial⟩
              have hY23 : Box ((((v22.setCell ⟨v21.heap.size, 0, none⟩ (.int .i64 0)).setCell ⟨v21.heap.size, 1, none⟩ (.bool s1)).setCell ⟨v21.heap.size, 2, none⟩ (.slice p1 k1 c1)).setCell ⟨v21.heap.size, 3, none⟩ (.slice q1 l1 d1)) (v1.heap.size) _ := Box.stores_other (k := 0) (l := [.int .i64 0, .bool s1, .slice p1 k1 c1, .slice q1 l1 d1]) hY22 (by omega)
              have hG023 : Hid (FNorm ((((v22.setCell ⟨v21.heap.size, 0, none⟩ (.int .i64 0)).setCell ⟨v21.heap.size, 1, none⟩ (.bool s1)).setCell ⟨v21.heap.size, 2, none⟩ (.slice p1 k1 c1)).setCell ⟨v21.heap.size, 3, none⟩ (.slice q1 l1 d1)) (.agg #[.bool s1, .slice p1 k1 c1, .slice q1 l1 d1]) r1) := hid (FNorm.stores (k := 0) (l := [.int .i64 0, .bool s1, .slice p1 k1 c1, .slice q1 l1 d1]) hG022.out hX22 ⟨trivial, trivial, trivial, trivial, trivial⟩)
              have hG123 : Hid (FNorm ((((v22.setCell ⟨v21.heap.size, 0, none⟩ (.int .i64 0)).setCell ⟨v21.heap.size, 1, none⟩ (.bool s1)).setCell ⟨v21.heap.size, 2, none⟩ (.slice p1 k1 c1)).setCell ⟨v21.heap.size, 3, none⟩ (.slice q1 l1 d1)) (.agg #[.bool s2, .slice p2 k2 c2, .slice q2 l2 d2]) r2) := hid (FNorm.stores (k := 0) (l := [.int .i64 0, .bool s1, .slice p1 k1 c1, .slice q1 l1 d1]) hG122.out hX22 ⟨trivial, trivial, trivial, trivial, trivial⟩)
              have hz23 : ((((v22.setCell ⟨v21.heap.size, 0, none⟩ (.int .i64 0)).setCell ⟨v21.heap.size, 1, none⟩ (.bool s1)).setCell ⟨v21.heap.size, 2, none⟩ (.slice p1 k1 c1)).setCell ⟨v21.heap.size, 3, none⟩ (.slice q1 l1 d1)).heap.size = v22.heap.size := by simp
              have hz23 := Nat.le_of_eq hz23.symm
              generalize ((((v22.setCell ⟨v21.heap.size, 0, none⟩ (.int .i64 0)).setCell ⟨v21.heap.size, 1, none⟩ (.bool s1)).setCell ⟨v21.heap.size, 2, none⟩ (.slice p1 k1 c1)).setCell ⟨v21.heap.size, 3, none⟩ (.slice q1 l1 d1)) = v23 at *
              refine hK.out _ _ ?_ (fun hHeld => ?_)
              · exact HS.out _ hQ23
              clear hK K
              try simp only [Act.put, List.setIfInBounds_toArray, List.set_cons_zero, List.set_cons_succ]
              refine wpAnyH_ready (rs := [9]) (by kernel_rfl) (by simp) ?_
              refine AllReadyH.cons rfl (fun K hK => ?_) AllReadyH.nil
              · obtain ⟨g24_0, g24_1, g24_2, g24_3, g24_4, g24_5, g24_6, g24_7⟩ := hY23.cells4
                go_simp
                have hQ24 : QQ _ _ ((((v23.setCell ⟨v1.heap.size, 0, none⟩ (.int .i64 0)).setCell ⟨v1.heap.size, 1, none⟩ (.bool s2)).setCell ⟨v1.heap.size, 2, none⟩ (.slice p2 k2 c2)).setCell ⟨v1.heap.size, 3, none⟩ (.slice q2 l2 d2)) := QQ.stores (k := 0) (vs := [.int .i64 0, .bool s2, .slice p2 k2 c2, .slice q2 l2 d2]) hQ23 (ne1 (by omega)) (by omega)
                have hY24 : Box ((((v23.setCell ⟨v1.heap.size, 0, none⟩ (.int .i64 0)).setCell ⟨v1.heap.size, 1, none⟩ (.bool s2)).setCell ⟨v1.heap.size, 2, none⟩ (.slice p2 k2 c2)).setCell ⟨v1.heap.size, 3, none⟩ (.slice q2 l2 d2)) (v1.heap.size) #[.int .i64 0, .bool s2, .slice p2 k2 c2, .slice q2 l2 d2] := hY23.stores [.int .i64 0, .bool s2, .slice p2 k2 c2, .slice q2 l2 d2] rfl ⟨trivial, trivial, trivial, trivial, trivial⟩
                have hX24 : Box ((((v23.setCell ⟨v1.heap.size, 0, none⟩ (.int .i64 0)).setCell ⟨v1.heap.size, 1, none⟩ (.bool s2)).setCell ⟨v1.heap.size, 2, none⟩ (.slice p2 k2 c2)).setCell ⟨v1.heap.size, 3, none⟩ (.slice q2 l2 d2)) (v21.heap.size) _ := Box.stores_other (k := 0) (l := [.int .i64 0, .bool s2, .slice p2 k2 c2, .slice q2 l2 d2]) hX23 (by omega)
                have hG024 : Hid (FNorm ((((v23.setCell ⟨v1.heap.size, 0, none⟩ (.int .i64 0)).setCell ⟨v1.heap.size, 1, none⟩ (.bool s2)).setCell ⟨v1.heap.size, 2, none⟩ (.slice p2 k2 c2)).setCell ⟨v1.heap.size, 3, none⟩ (.slice q2 l2 d2)) (.agg #[.bool s1, .slice p1 k1 c1, .slice q1 l1 d1]) r1) := hid (FNorm.stores (k := 0) (l := [.int .i64 0, .bool s2, .slice p2 k2 c2, .slice q2 l2 d2]) hG023.out hY23 ⟨trivial, trivial, trivial, trivial, trivial⟩)
                have hG124 : Hid (FNorm ((((v23.setCell ⟨v1.heap.size, 0, none⟩ (.int .i64 0)).setCell ⟨v1.heap.size, 1, none⟩ (.bool s2)).setCell ⟨v1.heap.size, 2, none⟩ (.slice p2 k2 c2)).setCell ⟨v1.heap.size, 3, none⟩ (.slice q2 l2 d2)) (.agg #[.bool s2, .slice p2 k2 c2, .slice q2 l2 d2]) r2) := hid (FNorm.stores (k := 0) (l := [.int .i64 0, .bool s2, .slice p2 k2 c2, .slice q2 l2 d2]) hG123.out hY23 ⟨trivial, trivial, trivial, trivial, trivial⟩)
                have hz24 : ((((v23.setCell ⟨v1.heap.size, 0, none⟩ (.int .i64 0)).setCell ⟨v1.heap.size, 1, none⟩ (.bool s2)).setCell ⟨v1.heap.size, 2, none⟩ (.slice p2 k2 c2)).setCell ⟨v1.heap.size, 3, none⟩ (.slice q2 l2 d2)).heap.size = v23.heap.size := by simp
                have hz24 := Nat.le_of_eq hz24.symm
                generalize ((((v23.setCell ⟨v1.heap.size, 0, none⟩ (.int .i64 0)).setCell ⟨v1.heap.size, 1, none⟩ (.bool s2)).setCell ⟨v1.heap.size, 2, none⟩ (.slice p2 k2 c2)).setCell ⟨v1.heap.size, 3, none⟩ (.slice q2 l2 d2)) = v24 at *
                refine hK.out _ _ ?_ (fun hHeld => ?_)
                · exact HS.out _ hQ24
                clear hK K
                try simp only [Act.put, List.setIfInBounds_toArray, List.set_cons_zero, List.set_cons_succ]
                refine wpAnyH_done (by kernel_rfl) (NoPanic.normal ?_) _
                go_wp2_with fail
                go_meet
                exact ⟨v21.heap.size, v1.heap.size, s1, p1, k1, c1, q1, l1, d1, s2, p2, k2, c2, q2, l2, d2, rfl, rfl, by omega, hX24, hY24, hG024.out, hG124.out, hQ24.bel, by omega, by omega⟩
        · go_simp
          have hB25 : Below v20.heap.size v20 (v20.alloc (.cells #[.int .i64 0, .bool false, .slice none 0 0, .slice none 0 0] 59)) := (Below.refl _ _).alloc (Nat.le_refl _) _
          have hX25 := Box.mk' v20 [.int .i64 0, .bool false, .slice none 0 0, .slice none 0 0] 59 ⟨trivial, trivial, trivial, trivial, trivial⟩
          generalize v20.alloc (.cells #[.int .i64 0, .bool false, .slice none 0 0, .slice none 0 0] 59) = v25 at *
          have hQ25 := hQ20.call hB25
          have hz25 : v20.heap.size < v25.heap.size := hX25.lt
          have hY25 := hY20.below hB25
          have hG025 := hid (FNorm.below hG020.out hB25)
          refine hK.out _ _ ?_ (fun hHeld => ?_)
          · exact HS.out _ hQ25
          clear hK K
          try simp only [Act.put, List.setIfInBounds_toArray, List.set_cons_zero, List.set_cons_succ]
          refine wpAnyH_ready (rs := [5]) (by kernel_rfl) (by simp) ?_
          refine AllReadyH.cons rfl (fun K hK => ?_) AllReadyH.nil
          · go_simp
            go_at_call 57
            refine (HR2.out _ (HV.out.2.2.trans (hQ25.bel.mono HV.out.2.2.size))).mono ?_
            rintro e v26 ⟨s2, p2, k2, c2, q2, l2, d2, rfl, hF26, hB26⟩
            have hQ26 := hQ25.call hB26
            have hz26 : v25.heap.size ≤ v26.heap.size := hB26.size
            have hY26 := hY25.below hB26
            have hX26 := hX25.below hB26
            have hG026 := hid (FNorm.below hG025.out hB26)
            go_wp2_with fail
            refine hK.out _ _ ?_ (fun hHeld => ?_)
            · exact HS.out _ hQ26
            clear hK K
            try simp only [Act.put, List.setIfInBounds_toArray, List.set_cons_zero, List.set_cons_succ]
            refine wpAnyH_ready (rs := [8]) (by kernel_rfl) (by simp) ?_
            refine AllReadyH.cons rfl (fun K hK => ?_) AllReadyH.nil
            · obtain ⟨g27_0, g27_1, g27_2, g27_3, g27_4, g27_5, g27_6, g27_7⟩ := hX26.cells4
              go_simp
              have hQ27 : QQ _ _ ((((v26.setCell ⟨v20.heap.size, 0, none⟩ (.int .i64 0)).setCell ⟨v20.heap.size, 1, none⟩ (.bool s1)).setCell ⟨v20.heap.size, 2, none⟩ (.slice p1 k1 c1)).setCell ⟨v20.heap.size, 3, none⟩ (.slice q1 l1 d1)) := QQ.stores (k := 0) (vs := [.int .i64 0, .bool s1, .slice p1 k1 c1, .slice q1 l1 d1]) hQ26 (ne1 (by omega)) (by omega)
              have hX27 : Box ((((v26.setCell ⟨v20.heap.size, 0, none⟩ (.int .i64 0)).setCell ⟨v20.heap.size, 1, none⟩ (.bool s1)).setCell ⟨v20.heap.size, 2, none⟩ (.slice p1 k1 c1)).setCell ⟨v20.heap.size, 3, none⟩ (.slice q1 l1 d1)) (v20.heap.size) #[.int .i64 0, .bool s1, .slice p1 k1 c1, .slice q1 l1 d1] := hX26.stores [.int .i64 0, .bool s1, .slice p1 k1 c1, .slice q1 l1 d1] rfl ⟨trivial, trivial, trivial, trivial, trivial⟩
              have hY27 : Box ((((v26.setCell ⟨v20.heap.size, 0, none⟩ (.int .i64 0)).setCell ⟨v20.heap.size, 1, none⟩ (.bool s1)).setCell ⟨v20.heap.size, 2, none⟩ (.slice p1 k1 c1)).setCell ⟨v20.heap.size, 3, none⟩ (.slice q1 l1 d1)) (v1.heap.size) _ := Box.stores_other (k := 0) (l := [.int .i64 0, .bool s1, .slice p1 k1 c1, .slice q1 l1 d1]) hY26 (by omega)
              have hG027 : Hid (FNorm ((((v26.setCell ⟨v20.heap.size, 0, none⟩ (.int .i64 0)).setCell ⟨v20.heap.size, 1, none⟩ (.bool s1)).setCell ⟨v20.heap.size, 2, none⟩ (.slice p1 k1 c1)).setCell ⟨v20.heap.size, 3, none⟩ (.slice q1 l1 d1)) (.agg #[.bool s1, .slice p1 k1 c1, .slice q1 l1 d1]) r1) := hid (FNorm.stores (k := 0) (l := [.int .i64 0, .bool s1, .slice p1 k1 c1, .slice q1 l1 d1]) hG026.out hX26 ⟨trivial, trivial, trivial, trivial, trivial⟩)
              have hG127 : Hid (FNorm ((((v26.setCell ⟨v20.heap.size, 0, none⟩ (.int .i64 0)).setCell ⟨v20.heap.size, 1, none⟩ (.bool s1)).setCell ⟨v20.heap.size, 2, none⟩ (.slice p1 k1 c1)).setCell ⟨v20.heap.size, 3, none⟩ (.slice q1 l1 d1)) (.agg #[.bool s2, .slice p2 k2 c2, .slice q2 l2 d2]) r2) := hid (FNorm.stores (k := 0) (l := [.int .i64 0, .bool s1, .slice p1 k1 c1, .slice q1 l1 d1]) hF26.out hX26 ⟨trivial, trivial, trivial, trivial, trivial⟩)
              have hz27 : ((((v26.setCell ⟨v20.heap.size, 0, none⟩ (.int .i64 0)).setCell ⟨v20.heap.size, 1, none⟩ (.bool s1)).setCell ⟨v20.heap.size, 2, none⟩ (.slice p1 k1 c1)).setCell ⟨v20.heap.size, 3, none⟩ (.slice q1 l1 d1)).heap.size = v26.heap.size := by simp
              have hz27 := Nat.le_of_eq hz27.symm
              generalize ((((v26.setCell ⟨v20.heap.size, 0, none⟩ (.int .i64 0)).setCell ⟨v20.heap.size, 1, none⟩ (.bool s1)).setCell ⟨v20.heap.size, 2, none⟩ (.slice p1 k1 c1)).setCell ⟨v20.heap.size, 3, none⟩ (.slice q1 l1 d1)) = v27 at *
              refine hK.out _ _ ?_ (fun hHeld => ?_)
              · exact HS.out _ hQ27
              clear hK K
              try simp only [Act.put, List.setIfInBounds_toArray, List.set_cons_zero, List.set_cons_succ]
              refine wpAnyH_ready (rs := [9]) (by kernel_rfl) (by simp) ?_
              refine AllReadyH.cons rfl (fun K hK => ?_) AllReadyH.nil
              · obtain ⟨g28_0, g28_1, g28_2, g28_3, g28_4, g28_5, g28_6, g28_7⟩ := hY27.cells4
                go_simp
                have hQ28 : QQ _ _ ((((v27.setCell ⟨v1.heap.size, 0, none⟩ (.int .i64 0)).setCell ⟨v1.heap.size, 1, none⟩ (.bool s2)).setCell ⟨v1.heap.size, 2, none⟩ (.slice p2 k2 c2)).setCell ⟨v1.heap.size, 3, none⟩ (.slice q2 l2 d2)) := QQ.stores (k := 0) (vs := [.int .i64 0, .bool s2, .slice p2 k2 c2, .slice q2 l2 d2]) hQ27 (ne1 (by omega)) (by omega)
                have hY28 : Box ((((v27.setCell ⟨v1.heap.size, 0, none⟩ (.int .i64 0)).setCell ⟨v1.heap.size, 1, none⟩ (.bool s2)).setCell ⟨v1.heap.size, 2, none⟩ (.slice p2 k2 c2)).setCell ⟨v1.heap.size, 3, none⟩ (.slice q2 l2 d2)) (v1.heap.size) #[.int .i64 0, .bool s2, .slice p2 k2 c2, .slice q2 l2 d2] := hY27.stores [.int .i64 0, .bool s2, .slice p2 k2 c2, .slice q2 l2 d2] rfl ⟨trivial, trivial, trivial, trivial, trivial⟩
                have hX28 : Box ((((v27.setCell ⟨v1.heap.size, 0, none⟩ (.int .i64 0)).setCell ⟨v1.heap.size, 1, none⟩ (.bool s2)).setCell ⟨v1.heap.size, 2, none⟩ (.slice p2 k2 c2)).setCell ⟨v1.heap.size, 3, none⟩ (.slice q2 l2 d2)) (v20.heap.size) _ := Box.stores_other (k := 0) (l := [.int .i64 0, .bool s2, .slice p2 k2 c2, .slice q2 l2 d2]) hX27 (by omega)
                have hG028 : Hid (FNorm ((((v27.setCell ⟨v1.heap.size, 0, none⟩ (.int .i64 0)).setCell ⟨v1.heap.size, 1, none⟩ (.bool s2)).setCell ⟨v1.heap.size, 2, none⟩ (.slice p2 k2 c2)).setCell ⟨v1.heap.size, 3, none⟩ (.slice q2 l2 d2)) (.agg #[.bool s1, .slice p1 k1 c1, .slice q1 l1 d1]) r1) := hid (FNorm.stores (k := 0) (l := [.int .i64 0, .bool s2, .slice p2 k2 c2, .slice q2 l2 d2]) hG027.out hY27 ⟨trivial, trivial, trivial, trivial, trivial⟩)
                have hG128 : Hid (FNorm ((((v27.setCell ⟨v1.heap.size, 0, none⟩ (.int .i64 0)).setCell ⟨v1.heap.size, 1, none⟩ (.bool s2)).setCell ⟨v1.heap.size, 2, none⟩ (.slice p2 k2 c2)).setCell ⟨v1.heap.size, 3, none⟩ (.slice q2 l2 d2)) (.agg #[.bool s2, .slice p2 k2 c2, .slice q2 l2 d2]) r2) := hid (FNorm.stores (k := 0) (l := [.int .i64 0, .bool s2, .slice p2 k2 c2, .slice q2 l2 d2]) hG127.out hY27 ⟨trivial, trivial, trivial, trivial, trivial⟩)
                have hz28 : ((((v27.setCell ⟨v1.heap.size, 0, none⟩ (.int .i64 0)).setCell ⟨v1.heap.size, 1, none⟩ (.bool s2)).setCell ⟨v1.heap.size, 2, none⟩ (.slice p2 k2 c2)).setCell ⟨v1.heap.size, 3, none⟩ (.slice q2 l2 d2)).heap.size = v27.heap.size := by simp
                have hz28 := Nat.le_of_eq hz28.symm
                generalize ((((v27.setCell ⟨v1.heap.size, 0, none⟩ (.int .i64 0)).setCell ⟨v1.heap.size, 1, none⟩ (.bool s2)).setCell ⟨v1.heap.size, 2, none⟩ (.slice p2 k2 c2)).setCell ⟨v1.heap.size, 3, none⟩ (.slice q2 l2 d2)) = v28 at *
                refine hK.out _ _ ?_ (fun hHeld => ?_)
                · exact HS.out _ hQ28
                clear hK K
                try simp only [Act.put, List.setIfInBounds_toArray, List.set_cons_zero, List.set_cons_succ]
                refine wpAnyH_done (by kernel_rfl) (NoPanic.normal ?_) _
                go_wp2_with fail
                go_meet
                exact ⟨v20.heap.size, v1.heap.size, s1, p1, k1, c1, q1, l1, d1, s2, p2, k2, c2, q2, l2, d2, rfl, rfl, by omega, hX28, hY28, hG028.out, hG128.out, hQ28.bel, by omega, by omega⟩
    · go_simp
      have hB29 : Below v0.heap.size v0 (v0.alloc (.cells #[.int .i64 0, .bool false, .slice none 0 0, .slice none 0 0] 59)) := (Below.refl _ _).alloc (Nat.le_refl _) _
      have hX29 := Box.mk' v0 [.int .i64 0, .bool false, .slice none 0 0, .slice none 0 0] 59 ⟨trivial, trivial, trivial, trivial, trivial⟩
      generalize v0.alloc (.cells #[.int .i64 0, .bool false, .slice none 0 0, .slice none 0 0] 59) = v29 at *
      have hQ29 := hQ0.call hB29
      have hz29 : v0.heap.size < v29.heap.size := hX29.lt
      refine hK.out _ _ ?_ (fun hHeld => ?_)
      · exact HS.out _ hQ29
      clear hK K
      try simp only [Act.put, List.setIfInBounds_toArray, List.set_cons_zero, List.set_cons_succ]
      refine wpAnyH_ready (rs := [2, 7]) (by kernel_rfl) (by simp) ?_
      refine AllReadyH.cons rfl (fun K hK => ?_) (AllReadyH.cons rfl (fun K hK => ?_) AllReadyH.nil)
      · go_simp
        go_at_call 57
        refine (HR1.out _ (HV.out.2.2.trans (hQ29.bel.mono HV.out.2.2.size))).mono ?_
        rintro e v30 ⟨s1, p1, k1, c1, q1, l1, d1, rfl, hF30, hB30⟩
        have hQ30 := hQ29.call hB30
        have hz30 : v29.heap.size ≤ v30.heap.size := hB30.size
        have hX30 := hX29.below hB30
        go_wp2_with fail
        refine hK.out _ _ ?_ (fun hHeld => ?_)
        · exact HS.out _ hQ30
        clear hK K
        try simp only [Act.put, List.setIfInBounds_toArray, List.set_cons_zero, List.set_cons_succ]
        refine wpAnyH_ready (rs := [5, 7]) (by kernel_rfl) (by simp) ?_
        refine AllReadyH.cons rfl (fun K hK => ?_) (AllReadyH.cons rfl (fun K hK => ?_) AllReadyH.nil)
        · go_simp
          go_at_call 57
          refine (HR2.out _ (HV.out.2.2.trans (hQ30.bel.mono HV.out.2.2.size))).mono ?_
          rintro e v31 ⟨s2, p2, k2, c2, q2, l2, d2, rfl, hF31, hB31⟩
          have hQ31 := hQ30.call hB31
          have hz31 : v30.heap.size ≤ v31.heap.size := hB31.size
          have hX31 := hX30.below hB31
          have hG031 := hid (FNorm.below hF30.out hB31)
          go_wp2_with fail
          refine hK.out _ _ ?_ (fun hHeld => ?_)
          · exact HS.out _ hQ31
          clear hK K
          try simp only [Act.put, List.setIfInBounds_toArray, List.set_cons_zero, List.set_cons_succ]
          refine wpAnyH_ready (rs := [7]) (by kernel_rfl) (by simp) ?_
          refine AllReadyH.cons rfl (fun K hK => ?_) AllReadyH.nil
          · go_simp
            have hB32 : Below v31.heap.size v31 (v31.alloc (.cells #[.int .i64 0, .bool false, .slice none 0 0, .slice none 0 0] 59)) := (Below.refl _ _).alloc (Nat.le_refl _) _
            have hY32 := Box.mk' v31 [.int .i64 0, .bool false, .slice none 0 0, .slice none 0 0] 59 ⟨trivial, trivial, trivial, trivial, trivial⟩
            generalize v31.alloc (.cells #[.int .i64 0, .bool false, .slice none 0 0, .slice none 0 0] 59) = v32 at *
            have hQ32 := hQ31.call hB32
            have hz32 : v31.heap.size < v32.heap.size := hY32.lt
            have hX32 := hX31.below hB32
            have hG032 := hid (FNorm.below hG031.out hB32)
            have hG132 := hid (FNorm.below hF31.out hB32)
            refine hK.out _ _ ?_ (fun hHeld => ?_)
            · exact HS.out _ hQ32
            clear hK K
            try simp only [Act.put, List.setIfInBounds_toArray, List.set_cons_zero, List.set_cons_succ]
            refine wpAnyH_ready (rs := [8]) (by kernel_rfl) (by simp) ?_
            refine AllReadyH.cons rfl (fun K hK => ?_) AllReadyH.nil
            · obtain ⟨g33_0, g33_1, g33_2, g33_3, g33_4, g33_5, g33_6, g33_7⟩ := hX32.cells4
              go_simp
              have hQ33 : QQ _ _ ((((v32.setCell ⟨v0.heap.size, 0, none⟩ (.int .i64 0)).setCell ⟨v0.heap.size, 1, none⟩ (.bool s1)).setCell ⟨v0.heap.size, 2, none⟩ (.slice p1 k1 c1)).setCell ⟨v0.heap.size, 3, none⟩ (.slice q1 l1 d1)) := QQ.stores (k := 0) (vs := [.int .i64 0, .bool s1, .slice p1 k1 c1, .slice q1 l1 d1]) hQ32 (ne1 (by omega)) (by omega)
              have hX33 : Box ((((v32.setCell ⟨v0.heap.size, 0, none⟩ (.int .i64 0)).setCell ⟨v0.heap.size, 1, none⟩ (.bool s1)).setCell ⟨v0.heap.size, 2, none⟩ (.slice p1 k1 c1)).setCell ⟨v0.heap.size, 3, none⟩ (.slice q1 l1 d1)) (v0.heap.size) #[.int .i64 0, .bool s1, .slice p1 k1 c1, .slice q1 l1 d1] := hX32.stores [.int .i64 0, .bool s1, .slice p1 k1 c1, .slice q1 l1 d1] rfl ⟨trivial, trivial, trivial, trivial, trivial⟩
              have hY33 : Box ((((v32.setCell ⟨v0.heap.size, 0, none⟩ (.int .i64 0)).setCell ⟨v0.heap.size, 1, none⟩ (.bool s1)).setCell ⟨v0.heap.size, 2, none⟩ (.slice p1 k1 c1)).setCell ⟨v0.heap.size, 3, none⟩ (.slice q1 l1 d1)) (v31.heap.size) _ := Box.stores_other (k := 0) (l := [.int .i64 0, .bool s1, .slice p1 k1 c1, .slice q1 l1 d1]) hY32 (by omega)
              have hG033 : Hid (FNorm ((((v32.setCell ⟨v0.heap.size, 0, none⟩ (.int .i64 0)).setCell ⟨v0.heap.size, 1, none⟩ (.bool s1)).setCell ⟨v0.heap.size, 2, none⟩ (.slice p1 k1 c1)).setCell ⟨v0.heap.size, 3, none⟩ (.slice q1 l1 d1)) (.agg #[.bool s1, .slice p1 k1 c1, .slice q1 l1 d1]) r1) := hid (FNorm.stores (k := 0) (l := [.int .i64 0, .bool s1, .slice p1 k1 c1, .slice q1 l1 d1]) hG032.out hX32 ⟨trivial, trivial, trivial, trivial, trivial⟩)
              have hG133 : Hid (FNorm ((((v32.setCell ⟨v0.heap.size, 0, none⟩ (.int .i64 0)).setCell ⟨v0.heap.size, 1, none⟩ (.bool s1)).setCell ⟨v0.heap.size, 2, none⟩ (.slice p1 k1 c1)).setCell ⟨v0.heap.size, 3, none⟩ (.slice q1 l1 d1)) (.agg #[.bool s2, .slice p2 k2 c2, .slice q2 l2 d2]) r2) := hid (FNorm.stores (k := 0) (l := [.int .i64 0, .bool s1, .slice p1 k1 c1, .slice q1 l1 d1]) hG132.out hX32 ⟨trivial, trivial, trivial, trivial, trivial⟩)
              have hz33 : ((((v32.setCell ⟨v0.heap.size, 0, none⟩ (.int .i64 0)).setCell ⟨v0.heap.size, 1, none⟩ (.bool s1)).setCell ⟨v0.heap.size, 2, none⟩ (.slice p1 k1 c1)).setCell ⟨v0.heap.size, 3, none⟩ (.slice q1 l1 d1)).heap.size = v32.heap.size := by simp
              have hz33 := Nat.le_of_eq hz33.symm
              generalize ((((v32.setCell ⟨v0.heap.size, 0, none⟩ (.int .i64 0)).setCell ⟨v0.heap.size, 1, none⟩ (.bool s1)).setCell ⟨v0.heap.size, 2, none⟩ (.slice p1 k1 c1)).setCell ⟨v0.heap.size, 3, none⟩ (.slice q1 l1 d1)) = v33 at *
              refine hK.out _ _ ?_ (fun hHeld => ?_)
              · exact HS.out _ hQ33
              clear hK K
              try simp only [Act.put, List.setIfInBounds_toArray, List.set_cons_zero, List.set_cons_succ]
              refine wpAnyH_ready (rs := [9]) (by kernel_rfl) (by simp) ?_
              refine AllReadyH.cons rfl (fun K hK => ?_) AllReadyH.nil
              · obtain ⟨g34_0, g34_1, g34_2, g34_3, g34_4, g34_5, g34_6, g34_7⟩ := hY33.cells4
                go_simp
                have hQ34 : QQ _ _ ((((v33.setCell ⟨v31.heap.size, 0, none⟩ (.int .i64 0)).setCell ⟨v31.heap.size, 1, none⟩ (.bool s2)).setCell ⟨v31.heap.size, 2, none⟩ (.slice p2 k2 c2)).setCell ⟨v31.heap.size, 3, none⟩ (.slice q2 l2 d2)) := QQ.stores (k := 0) (vs := [.int .i64 0, .bool s2, .slice p2 k2 c2, .slice q2 l2 d2]) hQ33 (ne1 (by omega)) (by omega)
                have hY34 : Box ((((v33.setCell ⟨v31.heap.size, 0, none⟩ (.int .i64 0)).setCell ⟨v31.heap.size, 1, none⟩ (.bool s2)).setCell ⟨v31.heap.size, 2, none⟩ (.slice p2 k2 c2)).setCell ⟨v31.heap.size, 3, none⟩ (.slice q2 l2 d2)) (v31.heap.size) #[.int .i64 0, .bool s2, .slice p2 k2 c2, .slice q2 l2 d2] := hY33.stores [.int .i64 0, .bool s2, .slice p2 k2 c2, .slice q2 l2 d2] rfl ⟨trivial, trivial, trivial, trivial, trivial⟩
                have hX34 : Box ((((v33.setCell ⟨v31.heap.size, 0, none⟩ (.int .i64 0)).setCell ⟨v31.heap.size, 1, none⟩ (.bool s2)).setCell ⟨v31.heap.size, 2, none⟩ (.slice p2 k2 c2)).setCell ⟨v31.heap.size, 3, none⟩ (.slice q2 l2 d2)) (v0.heap.size) _ := Box.stores_other (k := 0) (l := [.int .i64 0, .bool s2, .slice p2 k2 c2, .slice q2 l2 d2]) hX33 (by omega)
                have hG034 : Hid (FNorm ((((v33.setCell ⟨v31.heap.size, 0, none⟩ (.int .i64 0)).setCell ⟨v31.heap.size, 1, none⟩ (.bool s2)).setCell ⟨v31.heap.size, 2, none⟩ (.slice p2 k2 c2)).setCell ⟨v31.heap.size, 3, none⟩ (.slice q2 l2 d2)) (.agg #[.bool s1, .slice p1 k1 c1, .slice q1 l1 d1]) r1) := hid (FNorm.stores (k := 0) (l := [.int .i64 0, .bool s2, .slice p2 k2 c2, .slice q2 l2 d2]) hG033.out hY33 ⟨trivial, trivial, trivial, trivial, trivial⟩)
                have hG134 : Hid (FNorm ((((v33.setCell ⟨v31.heap.size, 0, none⟩ (.int .i64 0)).setCell ⟨v31.heap.size, 1, none⟩ (.bool s2)).setCell ⟨v31.heap.size, 2, none⟩ (.slice p2 k2 c2)).setCell ⟨v31.heap.size, 3, none⟩ (.slice q2 l2 d2)) (.agg #[.bool s2, .slice p2 k2 c2, .slice q2 l2 d2]) r2) := hid (FNorm.stores (k := 0) (l := [.int .i64 0, .bool s2, .slice p2 k2 c2, .slice q2 l2 d2]) hG133.out hY33 ⟨trivial, trivial, trivial, trivial, trivial⟩)
                have hz34 : ((((v33.setCell ⟨v31.heap.size, 0, none⟩ (.int .i64 0)).setCell ⟨v31.heap.size, 1, none⟩ (.bool s2)).setCell ⟨v31.heap.size, 2, none⟩ (.slice p2 k2 c2)).setCell ⟨v31.heap.size, 3, none⟩ (.slice q2 l2 d2)).heap.size = v33.heap.size := by simp
                have hz34 := Nat.le_of_eq hz34.symm
                generalize ((((v33.setCell ⟨v31.heap.size, 0, none⟩ (.int .i64 0)).setCell ⟨v31.heap.size, 1, none⟩ (.bool s2)).setCell ⟨v31.heap.size, 2, none⟩ (.slice p2 k2 c2)).setCell ⟨v31.heap.size, 3, none⟩ (.slice q2 l2 d2)) = v34 at *
                refine hK.out _ _ ?_ (fun hHeld => ?_)
                · exact HS.out _ hQ34
                clear hK K
                try simp only [Act.put, List.setIfInBounds_toArray, List.set_cons_zero, List.set_cons_succ]
                refine wpAnyH_done (by kernel_rfl) (NoPanic.normal ?_) _
                go_wp2_with fail
                go_meet
                exact ⟨v0.heap.size, v31.heap.size, s1, p1, k1, c1, q1, l1, d1, s2, p2, k2, c2, q2, l2, d2, rfl, rfl, by omega, hX34, hY34, hG034.out, hG134.out, hQ34.bel, by omega, by omega⟩
        · go_simp
          have hB35 : Below v30.heap.size v30 (v30.alloc (.cells #[.int .i64 0, .bool false, .slice none 0 0, .slice none 0 0] 59)) := (Below.refl _ _).alloc (Nat.le_refl _) _
          have hY35 := Box.mk' v30 [.int .i64 0, .bool false, .slice none 0 0, .slice none 0 0] 59 ⟨trivial, trivial, trivial, trivial, trivial⟩
          generalize v30.alloc (.cells #[.int .i64 0, .bool false, .slice none 0 0, .slice none 0 0] 59) = v35 at *
          have hQ35 := hQ30.call hB35
          have hz35 : v30.heap.size < v35.heap.size := hY35.lt
          have hX35 := hX30.below hB35
          have hG035 := hid (FNorm.below hF30.out hB35)
          refine hK.out _ _ ?_ (fun hHeld => ?_)
          · exact HS.out _ hQ35
          clear hK K
          try simp only [Act.put, List.setIfInBounds_toArray, List.set_cons_zero, List.set_cons_succ]
          refine wpAnyH_ready (rs := [5]) (by kernel_rfl) (by simp) ?_
          refine AllReadyH.cons rfl (fun K hK => ?_) AllReadyH.nil
          · go_simp
            go_at_call 57
            refine (HR2.out _ (HV.out.2.2.trans (hQ35.bel.mono HV.out.2.2.size))).mono ?_
            rintro e v36 ⟨s2, p2, k2, c2, q2, l2, d2, rfl, hF36, hB36⟩
            have hQ36 := hQ35.call hB36
            have hz36 : v35.heap.size ≤ v36.heap.size := hB36.size
            have hX36 := hX35.below hB36
            have hY36 := hY35.below hB36
            have hG036 := hid (FNorm.below hG035.out hB36)
            go_wp2_with fail
            refine hK.out _ _ ?_ (fun hHeld => ?_)
            · exact HS.out _ hQ36
            clear hK K
            try simp only [Act.put, List.setIfInBounds_toArray, List.set_cons_zero, List.set_cons_succ]
            refine wpAnyH_ready (rs := [8]) (by kernel_rfl) (by simp) ?_
            refine AllReadyH.cons rfl (fun K hK => ?_) AllReadyH.nil
            · obtain ⟨g37_0, g37_1, g37_2, g37_3, g37_4, g37_5, g37_6, g37_7⟩ := hX36.cells4
              go_simp
              have hQ37 : QQ _ _ ((((v36.setCell ⟨v0.heap.size, 0, none⟩ (.int .i64 0)).setCell ⟨v0.heap.size, 1, none⟩ (.bool s1)).setCell ⟨v0.heap.size, 2, none⟩ (.slice p1 k1 c1)).setCell ⟨v0.heap.size, 3, none⟩ (.slice q1 l1 d1)) := QQ.stores (k := 0) (vs := [.int .i64 0, .bool s1, .slice p1 k1 c1, .slice q1 l1 d1]) hQ36 (ne1 (by omega)) (by omega)
              have hX37 : Box ((((v36.setCell ⟨v0.heap.size, 0, none⟩ (.int .i64 0)).setCell ⟨v0.heap.size, 1, none⟩ (.bool s1)).setCell ⟨v0.heap.size, 2, none⟩ (.slice p1 k1 c1)).setCell ⟨v0.heap.size, 3, none⟩ (.slice q1 l1 d1)) (v0.heap.size) #[.int .i64 0, .bool s1, .slice p1 k1 c1, .slice q1 l1 d1] := hX36.stores [.int .i64 0, .bool s1, .slice p1 k1 c1, .slice q1 l1 d1] rfl ⟨trivial, trivial, trivial, trivial, trivial⟩
              have hY37 : Box ((((v36.setCell ⟨v0.heap.size, 0, none⟩ (.int .i64 0)).setCell ⟨v0.heap.size, 1, none⟩ (.bool s1)).setCell ⟨v0.heap.size, 2, none⟩ (.slice p1 k1 c1)).setCell ⟨v0.heap.size, 3, none⟩ (.slice q1 l1 d1)) (v30.heap.size) _ := Box.stores_other (k := 0) (l := [.int .i64 0, .bool s1, .slice p1 k1 c1, .slice q1 l1 d1]) hY36 (by omega)
              have hG037 : Hid (FNorm ((((v36.setCell ⟨v0.heap.size, 0, none⟩ (.int .i64 0)).setCell ⟨v0.heap.size, 1, none⟩ (.bool s1)).setCell ⟨v0.heap.size, 2, none⟩ (.slice p1 k1 c1)).setCell ⟨v0.heap.size, 3, none⟩ (.slice q1 l1 d1)) (.agg #[.bool s1, .slice p1 k1 c1, .slice q1 l1 d1]) r1) := hid (FNorm.stores (k := 0) (l := [.int .i64 0, .bool s1, .slice p1 k1 c1, .slice q1 l1 d1]) hG036.out hX36 ⟨trivial, trivial, trivial, trivial, trivial⟩)
              have hG137 : Hid (FNorm ((((v36.setCell ⟨v0.heap.size, 0, none⟩ (.int .i64 0)).setCell ⟨v0.heap.size, 1, none⟩ (.bool s1)).setCell ⟨v0.heap.size, 2, none⟩ (.slice p1 k1 c1)).setCell ⟨v0.heap.size, 3, none⟩ (.slice q1 l1 d1)) (.agg #[.bool s2, .slice p2 k2 c2, .slice q2 l2 d2]) r2) := hid (FNorm.stores (k := 0) (l := [.int .i64 0, .bool s1, .slice p1 k1 c1, .slice q1 l1 d1]) hF36.out hX36 ⟨trivial, trivial, trivial, trivial, trivial⟩)
              have hz37 : ((((v36.setCell ⟨v0.heap.size, 0, none⟩ (.int .i64 0)).setCell ⟨v0.heap.size, 1, none⟩ (.bool s1)).setCell ⟨v0.heap.size, 2, none⟩ (.slice p1 k1 c1)).setCell ⟨v0.heap.size, 3, none⟩ (.slice q1 l1 d1)).heap.size = v36.heap.size := by simp
              have hz37 := Nat.le_of_eq hz37.symm
              generalize ((((v36.setCell ⟨v0.heap.size, 0, none⟩ (.int .i64 0)).setCell ⟨v0.heap.size, 1, none⟩ (.bool s1)).setCell ⟨v0.heap.size, 2, none⟩ (.slice p1 k1 c1)).setCell ⟨v0.heap.size, 3, none⟩ (.slice q1 l1 d1)) = v37 at *
              refine hK.out _ _ ?_ (fun hHeld => ?_)
              · exact HS.out _ hQ37
              clear hK K
              try simp only [Act.put, List.setIfInBounds_toArray, List.set_cons_zero, List.set_cons_succ]
              refine wpAnyH_ready (rs := [9]) (by kernel_rfl) (by simp) ?_
              refine AllReadyH.cons rfl (fun K hK => ?_) AllReadyH.nil
              · obtain ⟨g38_0, g38_1, g38_2, g38_3, g38_4, g38_5, g38_6, g38_7⟩ := hY37.cells4
                go_simp
                have hQ38 : QQ _ _ ((((v37.setCell ⟨v30.heap.size, 0, none⟩ (.int .i64 0)).setCell ⟨v30.heap.size, 1, none⟩ (.bool s2)).setCell ⟨v30.heap.size, 2, none⟩ (.slice p2 k2 c2)).setCell ⟨v30.heap.size, 3, none⟩ (.slice q2 l2 d2)) := QQ.stores (k := 0) (vs := [.int .i64 0, .bool s2, .slice p2 k2 c2, .slice q2 l2 d2]) hQ37 (ne1 (by omega)) (by omega)
                have hY38 : Box ((((v37.setCell ⟨v30.heap.size, 0, none⟩ (.int .i64 0)).setCell ⟨v30.heap.size, 1, none⟩ (.bool s2)).setCell ⟨v30.heap.size, 2, none⟩ (.slice p2 k2 c2)).setCell ⟨v30.heap.size, 3, none⟩ (.slice q2 l2 d2)) (v30.heap.size) #[.int .i64 0, .bool s2, .slice p2 k2 c2, .slice q2 l2 d2] := hY37.stores [.int .i64 0, .bool s2, .slice p2 k2 c2, .slice q2 l2 d2] rfl ⟨trivial, trivial, trivial, trivial, trivial⟩
                have hX38 : Box ((((v37.setCell ⟨v30.heap.size, 0, none⟩ (.int .i64 0)).setCell ⟨v30.heap.size, 1, none⟩ (.bool s2)).setCell ⟨v30.heap.size, 2, none⟩ (.slice p2 k2 c2)).setCell ⟨v30.heap.size, 3, none⟩ (.slice q2 l2 d2)) (v0.heap.size) _ := Box.stores_other (k := 0) (l := [.int .i64 0, .bool s2, .slice p2 k2 c2, .slice q2 l2 d2]) hX37 (by omega)
                have hG038 : Hid (FNorm ((((v37.setCell ⟨v30.heap.size, 0, none⟩ (.int .i64 0)).setCell ⟨v30.heap.size, 1, none⟩ (.bool s2)).setCell ⟨v30.heap.size, 2, none⟩ (.slice p2 k2 c2)).setCell ⟨v30.heap.size, 3, none⟩ (.slice q2 l2 d2)) (.agg #[.bool s1, .slice p1 k1 c1, .slice q1 l1 d1]) r1) := hid (FNorm.stores (k := 0) (l := [.int .i64 0, .bool s2, .slice p2 k2 c2, .slice q2 l2 d2]) hG037.out hY37 ⟨trivial, trivial, trivial, trivial, trivial⟩)
                have hG138 : Hid (FNorm ((((v37.setCell ⟨v30.heap.size, 0, none⟩ (.int .i64 0)).setCell ⟨v30.heap.size, 1, none⟩ (.bool s2)).setCell ⟨v30.heap.size, 2, none⟩ (.slice p2 k2 c2)).setCell ⟨v30.heap.size, 3, none⟩ (.slice q2 l2 d2)) (.agg #[.bool s2, .slice p2 k2 c2, .slice q2 l2 d2]) r2) := hid (FNorm.stores (k := 0) (l := [.int .i64 0, .bool s2, .slice p2 k2 c2, .slice q2 l2 d2]) hG137.out hY37 ⟨trivial, trivial, trivial, trivial, trivial⟩)
                have hz38 : ((((v37.setCell ⟨v30.heap.size, 0, none⟩ (.int .i64 0)).setCell ⟨v30.heap.size, 1, none⟩ (.bool s2)).setCell ⟨v30.heap.size, 2, none⟩ (.slice p2 k2 c2)).setCell ⟨v30.heap.size, 3, none⟩ (.slice q2 l2 d2)).heap.size = v37.heap.size := by simp
                have hz38 := Nat.le_of_eq hz38.symm
                generalize ((((v37.setCell ⟨v30.heap.size, 0, none⟩ (.int .i64 0)).setCell ⟨v30.heap.size, 1, none⟩ (.bool s2)).setCell ⟨v30.heap.size, 2, none⟩ (.slice p2 k2 c2)).setCell ⟨v30.heap.size, 3, none⟩ (.slice q2 l2 d2)) = v38 at *
                refine hK.out _ _ ?_ (fun hHeld => ?_)
                · exact HS.out _ hQ38
                clear hK K
                try simp only [Act.put, List.setIfInBounds_toArray, List.set_cons_zero, List.set_cons_succ]
                refine wpAnyH_done (by kernel_rfl) (NoPanic.normal ?_) _
                go_wp2_with fail
                go_meet
                exact ⟨v0.heap.size, v30.heap.size, s1, p1, k1, c1, q1, l1, d1, s2, p2, k2, c2, q2, l2, d2, rfl, rfl, by omega, hX38, hY38, hG038.out, hG138.out, hQ38.bel, by omega, by omega⟩
      · go_simp
        have hB39 : Below v29.heap.size v29 (v29.alloc (.cells #[.int .i64 0, .bool false, .slice none 0 0, .slice none 0 0] 59)) := (Below.refl _ _).alloc (Nat.le_refl _) _
        have hY39 := Box.mk' v29 [.int .i64 0, .bool false, .slice none 0 0, .slice none 0 0] 59 ⟨trivial, trivial, trivial, trivial, trivial⟩
        generalize v29.alloc (.cells #[.int .i64 0, .bool false, .slice none 0 0, .slice none 0 0] 59) = v39 at *
        have hQ39 := hQ29.call hB39
        have hz39 : v29.heap.size < v39.heap.size := hY39.lt
        have hX39 := hX29.below hB39
        refine hK.out _ _ ?_ (fun hHeld => ?_)
        · exact HS.out _ hQ39
        clear hK K
        try simp only [Act.put, List.setIfInBounds_toArray, List.set_cons_zero, List.set_cons_succ]
        refine wpAnyH_ready (rs := [2]) (by kernel_rfl) (by simp) ?_
        refine AllReadyH.cons rfl (fun K hK => ?_) AllReadyH.nil
        · go_simp
          go_at_call 57
          refine (HR1.out _ (HV.out.2.2.trans (hQ39.bel.mono HV.out.2.2.size))).mono ?_
          rintro e v40 ⟨s1, p1, k1, c1, q1, l1, d1, rfl, hF40, hB40⟩
          have hQ40 := hQ39.call hB40
          have hz40 : v39.heap.size ≤ v40.heap.size := hB40.size
          have hX40 := hX39.below hB40
          have hY40 := hY39.below hB40
          go_wp2_with fail
          refine hK.out _ _ ?_ (fun hHeld => ?_)
          · exact HS.out _ hQ40
          clear hK K
          try simp only [Act.put, List.setIfInBounds_toArray, List.set_cons_zero, List.set_cons_succ]
          refine wpAnyH_ready (rs := [5]) (by kernel_rfl) (by simp) ?_
          refine AllReadyH.cons rfl (fun K hK => ?_) AllReadyH.nil
          · go_simp
            go_at_call 57
            refine (HR2.out _ (HV.out.2.2.trans (hQ40.bel.mono HV.out.2.2.size))).mono ?_
            rintro e v41 ⟨s2, p2, k2, c2, q2, l2, d2, rfl, hF41, hB41⟩
            have hQ41 := hQ40.call hB41
            have hz41 : v40.heap.size ≤ v41.heap.size := hB41.size
            have hX41 := hX40.below hB41
            have hY41 := hY40.below hB41
            have hG041 := hid (FNorm.below hF40.out hB41)
            go_wp2_with fail
            refine hK.out _ _ ?_ (fun hHeld => ?_)
            · exact HS.out _ hQ41
            clear hK K
            try simp only [Act.put, List.setIfInBounds_toArray, List.set_cons_zero, List.set_cons_succ]
            refine wpAnyH_ready (rs := [8]) (by kernel_rfl) (by simp) ?_
            refine AllReadyH.cons rfl (fun K hK => ?_) AllReadyH.nil
            · obtain ⟨g42_0, g42_1, g42_2, g42_3, g42_4, g42_5, g42_6, g42_7⟩ := hX41.cells4
              go_simp
              have hQ42 : QQ _ _ ((((v41.setCell ⟨v0.heap.size, 0, none⟩ (.int .i64 0)).setCell ⟨v0.heap.size, 1, none⟩ (.bool s1)).setCell ⟨v0.heap.size, 2, none⟩ (.slice p1 k1 c1)).setCell ⟨v0.heap.size, 3, none⟩ (.slice q1 l1 d1)) := QQ.stores (k := 0) (vs := [.int .i64 0, .bool s1, .slice p1 k1 c1, .slice q1 l1 d1]) hQ41 (ne1 (by omega)) (by omega)
              have hX42 : Box ((((v41.setCell ⟨v0.heap.size, 0, none⟩ (.int .i64 0)).setCell ⟨v0.heap.size, 1, none⟩ (.bool s1)).setCell ⟨v0.heap.size, 2, none⟩ (.slice p1 k1 c1)).setCell ⟨v0.heap.size, 3, none⟩ (.slice q1 l1 d1)) (v0.heap.size) #[.int .i64 0, .bool s1, .slice p1 k1 c1, .slice q1 l1 d1] := hX41.stores [.int .i64 0, .bool s1, .slice p1 k1 c1, .slice q1 l1 d1] rfl ⟨trivial, trivial, trivial, trivial, trivial⟩
              have hY42 : Box ((((v41.setCell ⟨v0.heap.size, 0, none⟩ (.int .i64 0)).setCell ⟨v0.heap.size, 1, none⟩ (.bool s1)).setCell ⟨v0.heap.size, 2, none⟩ (.slice p1 k1 c1)).setCell ⟨v0.heap.size, 3, none⟩ (.slice q1 l1 d1)) (v29.heap.size) _ := Box.stores_other (k := 0) (l := [.int .i64 0, .bool s1, .slice p1 k1 c1, .slice q1 l1 d1]) hY41 (by omega)
              have hG042 : Hid (FNorm ((((v41.setCell ⟨v0.heap.size, 0, none⟩ (.int .i64 0)).setCell ⟨v0.heap.size, 1, none⟩ (.bool s1)).setCell ⟨v0.heap.size, 2, none⟩ (.slice p1 k1 c1)).setCell ⟨v0.heap.size, 3, none⟩ (.slice q1 l1 d1)) (.agg #[.bool s1, .slice p1 k1 c1, .slice q1 l1 d1]) r1) := hid (FNorm.stores (k := 0) (l := [.int .i64 0, .bool s1, .slice p1 k1 c1, .slice q1 l1 d1]) hG041.out hX41 ⟨trivial, trivial, trivial, trivial, trivial⟩)
              have hG142 : Hid (FNorm ((((v41.setCell ⟨v0.heap.size, 0, none⟩ (.int .i64 0)).setCell ⟨v0.heap.size, 1, none⟩ (.bool s1)).setCell ⟨v0.heap.size, 2, none⟩ (.slice p1 k1 c1)).setCell ⟨v0.heap.size, 3, none⟩ (.slice q1 l1 d1)) (.agg #[.bool s2, .slice p2 k2 c2, .slice q2 l2 d2]) r2) := hid (FNorm.stores (k := 0) (l := [.int .i64 0, .bool s1, .slice p1 k1 c1, .slice q1 l1 d1]) hF41.out hX41 ⟨trivial, trivial, trivial, trivial, trivial⟩)
              have hz42 : ((((v41.setCell ⟨v0.heap.size, 0, none⟩ (.int .i64 0)).setCell ⟨v0.heap.size, 1, none⟩ (.bool s1)).setCell ⟨v0.heap.size, 2, none⟩ (.slice p1 k1 c1)).setCell ⟨v0.heap.size, 3, none⟩ (.slice q1 l1 d1)).heap.size = v41.heap.size := by simp
              have hz42 := Nat.le_of_eq hz42.symm
              generalize ((((v41.setCell ⟨v0.heap.size, 0, none⟩ (.int .i64 0)).setCell ⟨v0.heap.size, 1, none⟩ (.bool s1)).setCell ⟨v0.heap.size, 2, none⟩ (.slice p1 k1 c1)).setCell ⟨v0.heap.size, 3, none⟩ (.slice q1 l1 d1)) = v42 at *
              refine hK.out _ _ ?_ (fun hHeld => ?_)
              · exact HS.out _ hQ42
              clear hK K
              try simp only [Act.put, List.setIfInBounds_toArray, List.set_cons_zero, List.set_cons_succ]
              refine wpAnyH_ready (rs := [9]) (by kernel_rfl) (by simp) ?_
              refine AllReadyH.cons rfl (fun K hK => ?_) AllReadyH.nil
              · obtain ⟨g43_0, g43_1, g43_2, g43_3, g43_4, g43_5, g43_6, g43_7⟩ := hY42.cells4
                go_simp
                have hQ43 : QQ _ _ ((((v42.setCell ⟨v29.heap.size, 0, none⟩ (.int .i64 0)).setCell ⟨v29.heap.size, 1, none⟩ (.bool s2)).setCell ⟨v29.heap.size, 2, none⟩ (.slice p2 k2 c2)).setCell ⟨v29.heap.size, 3, none⟩ (.slice q2 l2 d2)) := QQ.stores (k := 0) (vs := [.int .i64 0, .bool s2, .slice p2 k2 c2, .slice q2 l2 d2]) hQ42 (ne1 (by omega)) (by omega)
                have hY43 : Box ((((v42.setCell ⟨v29.heap.size, 0, none⟩ (.int .i64 0)).setCell ⟨v29.heap.size, 1, none⟩ (.bool s2)).setCell ⟨v29.heap.size, 2, none⟩ (.slice p2 k2 c2)).setCell ⟨v29.heap.size, 3, none⟩ (.slice q2 l2 d2)) (v29.heap.size) #[.int .i64 0, .bool s2, .slice p2 k2 c2, .slice q2 l2 d2] := hY42.stores [.int .i64 0, .bool s2, .slice p2 k2 c2, .slice q2 l2 d2] rfl ⟨trivial, trivial, trivial, trivial, trivial⟩
                have hX43 : Box ((((v42.setCell ⟨v29.heap.size, 0, none⟩ (.int .i64 0)).setCell ⟨v29.heap.size, 1, none⟩ (.bool s2)).setCell ⟨v29.heap.size, 2, none⟩ (.slice p2 k2 c2)).setCell ⟨v29.heap.size, 3, none⟩ (.slice q2 l2 d2)) (v0.heap.size) _ := Box.stores_other (k := 0) (l := [.int .i64 0, .bool s2, .slice p2 k2 c2, .slice q2 l2 d2]) hX42 (by omega)
                have hG043 : Hid (FNorm ((((v42.setCell ⟨v29.heap.size, 0, none⟩ (.int .i64 0)).setCell ⟨v29.heap.size, 1, none⟩ (.bool s2)).setCell ⟨v29.heap.size, 2, none⟩ (.slice p2 k2 c2)).setCell ⟨v29.heap.size, 3, none⟩ (.slice q2 l2 d2)) (.agg #[.bool s1, .slice p1 k1 c1, .slice q1 l1 d1]) r1) := hid (FNorm.stores (k := 0) (l := [.int .i64 0, .bool s2, .slice p2 k2 c2, .slice q2 l2 d2]) hG042.out hY42 ⟨trivial, trivial, trivial, trivial, trivial⟩)
                have hG143 : Hid (FNorm ((((v42.setCell ⟨v29.heap.size, 0, none⟩ (.int .i64 0)).setCell ⟨v29.heap.size, 1, none⟩ (.bool s2)).setCell ⟨v29.heap.size, 2, none⟩ (.slice p2 k2 c2)).setCell ⟨v29.heap.size, 3, none⟩ (.slice q2 l2 d2)) (.agg #[.bool s2, .slice p2 k2 c2, .slice q2 l2 d2]) r2) := hid (FNorm.stores (k := 0) (l := [.int .i64 0, .bool s2, .slice p2 k2 c2, .slice q2 l2 d2]) hG142.out hY42 ⟨trivial, trivial, trivial, trivial, trivial⟩)
                have hz43 : ((((v42.setCell ⟨v29.heap.size, 0, none⟩ (.int .i64 0)).setCell ⟨v29.heap.size, 1, none⟩ (.bool s2)).setCell ⟨v29.heap.size, 2, none⟩ (.slice p2 k2 c2)).setCell ⟨v29.heap.size, 3, none⟩ (.slice q2 l2 d2)).heap.size = v42.heap.size := by simp
                have hz43 := Nat.le_of_eq hz43.symm
                generalize ((((v42.setCell ⟨v29.heap.size, 0, none⟩ (.int .i64 0)).setCell ⟨v29.heap.size, 1, none⟩ (.bool s2)).setCell ⟨v29.heap.size, 2, none⟩ (.slice p2 k2 c2)).setCell ⟨v29.heap.size, 3, none⟩ (.slice q2 l2 d2)) = v43 at *
                refine hK.out _ _ ?_ (fun hHeld => ?_)
                · exact HS.out _ hQ43
                clear hK K
                try simp only [Act.put, List.setIfInBounds_toArray, List.set_cons_zero, List.set_cons_succ]
                refine wpAnyH_done (by kernel_rfl) (NoPanic.normal ?_) _
                go_wp2_with fail
                go_meet
                exact ⟨v0.heap.size, v29.heap.size, s1, p1, k1, c1, q1, l1, d1, s2, p2, k2, c2, q2, l2, d2, rfl, rfl, by omega, hX43, hY43, hG043.out, hG143.out, hQ43.bel, by omega, by omega⟩
    · go_simp
      have hB44 : Below v0.heap.size v0 (v0.alloc (.cells #[.int .i64 0, .bool false, .slice none 0 0, .slice none 0 0] 59)) := (Below.refl _ _).alloc (Nat.le_refl _) _
      have hY44 := Box.mk' v0 [.int .i64 0, .bool false, .slice none 0 0, .slice none 0 0] 59 ⟨trivial, trivial, trivial, trivial, trivial⟩
      generalize v0.alloc (.cells #[.int .i64 0, .bool false, .slice none 0 0, .slice none 0 0] 59) = v44 at *
      have hQ44 := hQ0.call hB44
      have hz44 : v0.heap.size < v44.heap.size := hY44.lt
      refine hK.out _ _ ?_ (fun hHeld => ?_)
      · exact HS.out _ hQ44
      clear hK K
      try simp only [Act.put, List.setIfInBounds_toArray, List.set_cons_zero, List.set_cons_succ]
      refine wpAnyH_ready (rs := [2, 6]) (by kernel_rfl) (by simp) ?_
      refine AllReadyH.cons rfl (fun K hK => ?_) (AllReadyH.cons rfl (fun K hK => ?_) AllReadyH.nil)
      · go_simp
        go_at_call 57
        refine (HR1.out _ (HV.out.2.2.trans (hQ44.bel.mono HV.out.2.2.size))).mono ?_
        rintro e v45 ⟨s1, p1, k1, c1, q1, l1, d1, rfl, hF45, hB45⟩
        have hQ45 := hQ44.call hB45
        have hz45 : v44.heap.size ≤ v45.heap.size := hB45.size
        have hY45 := hY44.below hB45
        go_wp2_with fail
        refine hK.out _ _ ?_ (fun hHeld => ?_)
        · exact HS.out _ hQ45
        clear hK K
        try simp only [Act.put, List.setIfInBounds_toArray, List.set_cons_zero, List.set_cons_succ]
        refine wpAnyH_ready (rs := [5, 6]) (by kernel_rfl) (by simp) ?_
        refine AllReadyH.cons rfl (fun K hK => ?_) (AllReadyH.cons rfl (fun K hK => ?_) AllReadyH.nil)
        · go_simp
          go_at_call 57
          refine (HR2.out _ (HV.out.2.2.trans (hQ45.bel.mono HV.out.2.2.size))).mono ?_
          rintro e v46 ⟨s2, p2, k2, c2, q2, l2, d2, rfl, hF46, hB46⟩
          have hQ46 := hQ45.call hB46
          have hz46 : v45.heap.size ≤ v46.heap.size := hB46.size
          have hY46 := hY45.below hB46
          have hG046 := hid (FNorm.below hF45.out hB46)
          go_wp2_with fail
          refine hK.out _ _ ?_ (fun hHeld => ?_)
          · exact HS.out _ hQ46
          clear hK K
          try simp only [Act.put, List.setIfInBounds_toArray, List.set_cons_zero, List.set_cons_succ]
          refine wpAnyH_ready (rs := [6]) (by kernel_rfl) (by simp) ?_
          refine AllReadyH.cons rfl (fun K hK => ?_) AllReadyH.nil
          · go_simp
            have hB47 : Below v46.heap.size v46 (v46.alloc (.cells #[.int .i64 0, .bool false, .slice none 0 0, .slice none 0 0] 59)) := (Below.refl _ _).alloc (Nat.le_refl _) _
            have hX47 := Box.mk' v46 [.int .i64 0, .bool false, .slice none 0 0, .slice none 0 0] 59 ⟨trivial, trivial, trivial, trivial, trivial⟩
            generalize v46.alloc (.cells #[.int .i64 0, .bool false, .slice none 0 0, .slice none 0 0] 59) = v47 at *
            have hQ47 := hQ46.call hB47
            have hz47 : v46.heap.size < v47.heap.size := hX47.lt
            have hY47 := hY46.below hB47
            have hG047 := hid (FNorm.below hG046.out hB47)
            have hG147 := hid (FNorm.below hF46.out hB47)
            refine hK.out _ _ ?_ (fun hHeld => ?_)
            · exact HS.out _ hQ47
            clear hK K
            try simp only [Act.put, List.setIfInBounds_toArray, List.set_cons_zero, List.set_cons_succ]
            refine wpAnyH_ready (rs := [8]) (by kernel_rfl) (by simp) ?_
            refine AllReadyH.cons rfl (fun K hK => ?_) AllReadyH.nil
            · obtain ⟨g48_0, g48_1, g48_2, g48_3, g48_4, g48_5, g48_6, g48_7⟩ := hX47.cells4
              go_simp
              have hQ48 : QQ _ _ ((((v47.setCell ⟨v46.heap.size, 0, none⟩ (.int .i64 0)).setCell ⟨v46.heap.size, 1, none⟩ (.bool s1)).setCell ⟨v46.heap.size, 2, none⟩ (.slice p1 k1 c1)).setCell ⟨v46.heap.size, 3, none⟩ (.slice q1 l1 d1)) := QQ.stores (k := 0) (vs := [.int .i64 0, .bool s1, .slice p1 k1 c1, .slice q1 l1 d1]) hQ47 (ne1 (by omega)) (by omega)
              have hX48 : Box ((((v47.setCell ⟨v46.heap.size, 0, none⟩ (.int .i64 0)).setCell ⟨v46.heap.size, 1, none⟩ (.bool s1)).setCell ⟨v46.heap.size, 2, none⟩ (.slice p1 k1 c1)).setCell ⟨v46.heap.size, 3, none⟩ (.slice q1 l1 d1)) (v46.heap.size) #[.int .i64 0, .bool s1, .slice p1 k1 c1, .slice q1 l1 d1] := hX47.stores [.int .i64 0, .bool s1, .slice p1 k1 c1, .slice q1 l1 d1] rfl ⟨trivial, trivial, trivial, trivial, trivial⟩
              have hY48 : Box ((((v47.setCell ⟨v46.heap.size, 0, none⟩ (.int .i64 0)).setCell ⟨v46.heap.size, 1, none⟩ (.bool s1)).setCell ⟨v46.heap.size, 2, none⟩ (.slice p1 k1 c1)).setCell ⟨v46.heap.size, 3, none⟩ (.slice q1 l1 d1)) (v0.heap.size) _ := Box.stores_other (k := 0) (l := [.int .i64 0, .bool s1, .slice p1 k1 c1, .slice q1 l1 d1]) hY47 (by omega)
              have hG048 : Hid (FNorm ((((v47.setCell ⟨v46.heap.size, 0, none⟩ (.int .i64 0)).setCell ⟨v46.heap.size, 1, none⟩ (.bool s1)).setCell ⟨v46.heap.size, 2, none⟩ (.slice p1 k1 c1)).setCell ⟨v46.heap.size, 3, none⟩ (.slice q1 l1 d1)) (.agg #[.bool s1, .slice p1 k1 c1, .slice q1 l1 d1]) r1) := hid (FNorm.stores (k := 0) (l := [.int .i64 0, .bool s1, .slice p1 k1 c1, .slice q1 l1 d1]) hG047.out hX47 ⟨trivial, trivial, trivial, trivial, trivial⟩)
              have hG148 : Hid (FNorm ((((v47.setCell ⟨v46.heap.size, 0, none⟩ (.int .i64 0)).setCell ⟨v46.heap.size, 1, none⟩ (.bool s1)).setCell ⟨v46.heap.size, 2, none⟩ (.slice p1 k1 c1)).setCell ⟨v46.heap.size, 3, none⟩ (.slice q1 l1 d1)) (.agg #[.bool s2, .slice p2 k2 c2, .slice q2 l2 d2]) r2) := hid (FNorm.stores (k := 0) (l := [.int .i64 0, .bool s1, .slice p1 k1 c1, .slice q1 l1 d1]) hG147.out hX47 ⟨trivial, trivial, trivial, trivial, trivial⟩)
              have hz48 : ((((v47.setCell ⟨v46.heap.size, 0, none⟩ (.int .i64 0)).setCell ⟨v46.heap.size, 1, none⟩ (.bool s1)).setCell ⟨v46.heap.size, 2, none⟩ (.slice p1 k1 c1)).setCell ⟨v46.heap.size, 3, none⟩ (.slice q1 l1 d1)).heap.size = v47.heap.size := by simp
              have hz48 := Nat.le_of_eq hz48.symm
              generalize ((((v47.setCell ⟨v46.heap.size, 0, none⟩ (.int .i64 0)).setCell ⟨v46.heap.size, 1, none⟩ (.bool s1)).setCell ⟨v46.heap.size, 2, none⟩ (.slice p1 k1 c1)).setCell ⟨v46.heap.size, 3, none⟩ (.slice q1 l1 d1)) = v48 at *
              refine hK.out _ _ ?_ (fun hHeld => ?_)
              · exact HS.out _ hQ48
              clear hK K
              try simp only [Act.put, List.setIfInBounds_toArray, List.set_cons_zero, List.set_cons_succ]
              refine wpAnyH_ready (rs := [9]) (by kernel_rfl) (by simp) ?_
              refine AllReadyH.cons rfl (fun K hK => ?_) AllReadyH.nil
              · obtain ⟨g49_0, g49_1, g49_2, g49_3, g49_4, g49_5, g49_6, g49_7⟩ := hY48.cells4
                go_simp
                have hQ49 : QQ _ _ ((((v48.setCell ⟨v0.heap.size, 0, none⟩ (.int .i64 0)).setCell ⟨v0.heap.size, 1, none⟩ (.bool s2)).setCell ⟨v0.heap.size, 2, none⟩ (.slice p2 k2 c2)).setCell ⟨v0.heap.size, 3, none⟩ (.slice q2 l2 d2)) := QQ.stores (k := 0) (vs := [.int .i64 0, .bool s2, .slice p2 k2 c2, .slice q2 l2 d2]) hQ48 (ne1 (by omega)) (by omega)
                have hY49 : Box ((((v48.setCell ⟨v0.heap.size, 0, none⟩ (.int .i64 0)).setCell ⟨v0.heap.size, 1, none⟩ (.bool s2)).setCell ⟨v0.heap.size, 2, none⟩ (.slice p2 k2 c2)).setCell ⟨v0.heap.size, 3, none⟩ (.slice q2 l2 d2)) (v0.heap.size) #[.int .i64 0, .bool s2, .slice p2 k2 c2, .slice q2 l2 d2] := hY48.stores [.int .i64 0, .bool s2, .slice p2 k2 c2, .slice q2 l2 d2] rfl ⟨trivial, trivial, trivial, trivial, trivial⟩
                have hX49 : Box ((((v48.setCell ⟨v0.heap.size, 0, none⟩ (.int .i64 0)).setCell ⟨v0.heap.size, 1, none⟩ (.bool s2)).setCell ⟨v0.heap.size, 2, none⟩ (.slice p2 k2 c2)).setCell ⟨v0.heap.size, 3, none⟩ (.slice q2 l2 d2)) (v46.heap.size) _ := Box.stores_other (k := 0) (l := [.int .i64 0, .bool s2, .slice p2 k2 c2, .slice q2 l2 d2]) hX48 (by omega)
                have hG049 : Hid (FNorm ((((v48.setCell ⟨v0.heap.size, 0, none⟩ (.int .i64 0)).setCell ⟨v0.heap.size, 1, none⟩ (.bool s2)).setCell ⟨v0.heap.size, 2, none⟩ (.slice p2 k2 c2)).setCell ⟨v0.heap.size, 3, none⟩ (.slice q2 l2 d2)) (.agg #[.bool s1, .slice p1 k1 c1, .slice q1 l1 d1]) r1) := hid (FNorm.stores (k := 0) (l := [.int .i64 0, .bool s2, .slice p2 k2 c2, .slice q2 l2 d2]) hG048.out hY48 ⟨trivial, trivial, trivial, trivial, trivial⟩)
                have hG149 : Hid (FNorm ((((v48.setCell ⟨v0.heap.size, 0, none⟩ (.int .i64 0)).setCell ⟨v0.heap.size, 1, none⟩ (.bool s2)).setCell ⟨v0.heap.size, 2, none⟩ (.slice p2 k2 c2)).setCell ⟨v0.heap.size, 3, none⟩ (.slice q2 l2 d2)) (.agg #[.bool s2, .slice p2 k2 c2, .slice q2 l2 d2]) r2) := hid (FNorm.stores (k := 0) (l := [.int .i64 0, .bool s2, .slice p2 k2 c2, .slice q2 l2 d2]) hG148.out hY48 ⟨trivial, trivial, trivial, trivial, trivial⟩)
                have hz49 : ((((v48.setCell ⟨v0.heap.size, 0, none⟩ (.int .i64 0)).setCell ⟨v0.heap.size, 1, none⟩ (.bool s2)).setCell ⟨v0.heap.size, 2, none⟩ (.slice p2 k2 c2)).setCell ⟨v0.heap.size, 3, none⟩ (.slice q2 l2 d2)).heap.size = v48.heap.size := by simp
                have hz49 := Nat.le_of_eq hz49.symm
                generalize ((((v48.setCell ⟨v0.heap.size, 0, none⟩ (.int .i64 0)).setCell ⟨v0.heap.size, 1, none⟩ (.bool s2)).setCell ⟨v0.heap.size, 2, none⟩ (.slice p2 k2 c2)).setCell ⟨v0.heap.size, 3, none⟩ (.slice q2 l2 d2)) = v49 at *
                refine hK.out _ _ ?_ (fun hHeld => ?_)
                · exact HS.out _ hQ49
                clear hK K
                try simp only [Act.put, List.setIfInBounds_toArray, List.set_cons_zero, List.set_cons_succ]
                refine wpAnyH_done (by kernel_rfl) (NoPanic.normal ?_) _
                go_wp2_with fail
                go_meet
                exact ⟨v46.heap.size, v0.heap.size, s1, p1, k1, c1, q1, l1, d1, s2, p2, k2, c2, q2, l2, d2, rfl, rfl, by omega, hX49, hY49, hG049.out, hG149.out, hQ49.bel, by omega, by omega⟩
        · go_simp
          have hB50 : Below v45.heap.size v45 (v45.alloc (.cells #[.int .i64 0, .bool false, .slice none 0 0, .slice none 0 0] 59)) := (Below.refl _ _).alloc (Nat.le_refl _) _
          have hX50 := Box.mk' v45 [.int .i64 0, .bool false, .slice none 0 0, .slice none 0 0] 59 ⟨trivial, trivial, trivial, trivial, trivial⟩
          generalize v45.alloc (.cells #[.int .i64 0, .bool false, .slice none 0 0, .slice none 0 0] 59) = v50 at *
          have hQ50 := hQ45.call hB50
          have hz50 : v45.heap.size < v50.heap.size := hX50.lt
          have hY50 := hY45.below hB50
          have hG050 := hid (FNorm.below hF45.out hB50)
          refine hK.out _ _ ?_ (fun hHeld => ?_)
          · exact HS.out _ hQ50
          clear hK K
          try simp only [Act.put, List.setIfInBounds_toArray, List.set_cons_zero, List.set_cons_succ]
          refine wpAnyH_ready (rs := [5]) (by kernel_rfl) (by simp) ?_
          refine AllReadyH.cons rfl (fun K hK => ?_) AllReadyH.nil
          · go_simp
            go_at_call 57
            refine (HR2.out _ (HV.out.2.2.trans (hQ50.bel.mono HV.out.2.2.size))).mono ?_
            rintro e v51 ⟨s2, p2, k2, c2, q2, l2, d2, rfl, hF51, hB51⟩
            have hQ51 := hQ50.call hB51
            have hz51 : v50.heap.size ≤ v51.heap.size := hB51.size
            have hY51 := hY50.below hB51
            have hX51 := hX50.below hB51
            have hG051 := hid (FNorm.below hG050.out hB51)
            go_wp2_with fail
            refine hK.out _ _ ?_ (fun hHeld => ?_)
            · exact HS.out _ hQ51
            clear hK K
            try simp only [Act.put, List.setIfInBounds_toArray, List.set_cons_zero, List.set_cons_succ]
            refine wpAnyH_ready (rs := [8]) (by kernel_rfl) (by simp) ?_
            refine AllReadyH.cons rfl (fun K hK => ?_) AllReadyH.nil
            · obtain ⟨g52_0, g52_1, g52_2, g52_3, g52_4, g52_5, g52_6, g52_7⟩ := hX51.cells4
              go_simp
              have hQ52 : QQ _ _ ((((v51.setCell ⟨v45.heap.size, 0, none⟩ (.int .i64 0)).setCell ⟨v45.heap.size, 1, none⟩ (.bool s1)).setCell ⟨v45.heap.size, 2, none⟩ (.slice p1 k1 c1)).setCell ⟨v45.heap.size, 3, none⟩ (.slice q1 l1 d1)) := QQ.stores (k := 0) (vs := [.int .i64 0, .bool s1, .slice p1 k1 c1, .slice q1 l1 d1]) hQ51 (ne1 (by omega)) (by omega)
              have hX52 : Box ((((v51.setCell ⟨v45.heap.size, 0, none⟩ (.int .i64 0)).setCell ⟨v45.heap.size, 1, none⟩ (.bool s1)).setCell ⟨v45.heap.size, 2, none⟩ (.slice p1 k1 c1)).setCell ⟨v45.heap.size, 3, none⟩ (.slice q1 l1 d1)) (v45.heap.size) #[.int .i64 0, .bool s1, .slice p1 k1 c1, .slice q1 l1 d1] := hX51.stores [.int .i64 0, .bool s1, .slice p1 k1 c1, .slice q1 l1 d1] rfl ⟨trivial, trivial, trivial, trivial, trivial⟩
              have hY52 : Box ((((v51.setCell ⟨v45.heap.size, 0, none⟩ (.int .i64 0)).setCell ⟨v45.heap.size, 1, none⟩ (.bool s1)).setCell ⟨v45.heap.size, 2, none⟩ (.slice p1 k1 c1)).setCell ⟨v45.heap.size, 3, none⟩ (.slice q1 l1 d1)) (v0.heap.size) _ := Box.stores_other (k := 0) (l := [.int .i64 0, .bool s1, .slice p1 k1 c1, .slice q1 l1 d1]) hY51 (by omega)
              have hG052 : Hid (FNorm ((((v51.setCell ⟨v45.heap.size, 0, none⟩ (.int .i64 0)).setCell ⟨v45.heap.size, 1, none⟩ (.bool s1)).setCell ⟨v45.heap.size, 2, none⟩ (.slice p1 k1 c1)).setCell ⟨v45.heap.size, 3, none⟩ (.slice q1 l1 d1)) (.agg #[.bool s1, .slice p1 k1 c1, .slice q1 l1 d1]) r1) := hid (FNorm.stores (k := 0) (l := [.int .i64 0, .bool s1, .slice p1 k1 c1, .slice q1 l1 d1]) hG051.out hX51 ⟨trivial, trivial, trivial, trivial, trivial⟩)
              have hG152 : Hid (FNorm ((((v51.setCell ⟨v45.heap.size, 0, none⟩ (.int .i64 0)).setCell ⟨v45.heap.size, 1, none⟩ (.bool s1)).setCell ⟨v45.heap.size, 2, none⟩ (.slice p1 k1 c1)).setCell ⟨v45.heap.size, 3, none⟩ (.slice q1 l1 d1)) (.agg #[.bool s2, .slice p2 k2 c2, .slice q2 l2 d2]) r2) := hid (FNorm.stores (k := 0) (l := [.int .i64 0, .bool s1, .slice p1 k1 c1, .slice q1 l1 d1]) hF51.out hX51 ⟨trivial, trivial, trivial, trivial, trivial⟩)
              have hz52 : ((((v51.setCell ⟨v45.heap.size, 0, none⟩ (.int .i64 0)).setCell ⟨v45.heap.size, 1, none⟩ (.bool s1)).setCell ⟨v45.heap.size, 2, none⟩ (.slice p1 k1 c1)).setCell ⟨v45.heap.size, 3, none⟩ (.slice q1 l1 d1)).heap.size = v51.heap.size := by simp
              have hz52 := Nat.le_of_eq hz52.symm
              generalize ((((v51.setCell ⟨v45.heap.size, 0, none⟩ (.int .i64 0)).setCell ⟨v45.heap.size, 1, none⟩ (.bool s1)).setCell ⟨v45.heap.size, 2, none⟩ (.slice p1 k1 c1)).setCell ⟨v45.heap.size, 3, none⟩ (.slice q1 l1 d1)) = v52 at *
              refine hK.out _ _ ?_ (fun hHeld => ?_)
              · exact HS.out _ hQ52
              clear hK K
              try simp only [Act.put, List.setIfInBounds_toArray, List.set_cons_zero, List.set_cons_succ]
              refine wpAnyH_ready (rs := [9]) (by kernel_rfl) (by simp) ?_
              refine AllReadyH.cons rfl (fun K hK => ?_) AllReadyH.nil
              · obtain ⟨g53_0, g53_1, g53_2, g53_3, g53_4, g53_5, g53_6, g53_7⟩ := hY52.cells4
                go_simp
                have hQ53 : QQ _ _ ((((v52.setCell ⟨v0.heap.size, 0, none⟩ (.int .i64 0)).setCell ⟨v0.heap.size, 1, none⟩ (.bool s2)).setCell ⟨v0.heap.size, 2, none⟩ (.slice p2 k2 c2)).setCell ⟨v0.heap.size, 3, none⟩ (.slice q2 l2 d2)) := QQ.stores (k := 0) (vs := [.int .i64 0, .bool s2, .slice p2 k2 c2, .slice q2 l2 d2]) hQ52 (ne1 (by omega)) (by omega)
                have hY53 : Box ((((v52.setCell ⟨v0.heap.size, 0, none⟩ (.int .i64 0)).setCell ⟨v0.heap.size, 1, none⟩ (.bool s2)).setCell ⟨v0.heap.size, 2, none⟩ (.slice p2 k2 c2)).setCell ⟨v0.heap.size, 3, none⟩ (.slice q2 l2 d2)) (v0.heap.size) #[.int .i64 0, .bool s2, .slice p2 k2 c2, .slice q2 l2 d2] := hY52.stores [.int .i64 0, .bool s2, .slice p2 k2 c2, .slice q2 l2 d2] rfl ⟨trivial, trivial, trivial, trivial, trivial⟩
                have hX53 : Box ((((v52.setCell ⟨v0.heap.size, 0, none⟩ (.int .i64 0)).setCell ⟨v0.heap.size, 1, none⟩ (.bool s2)).setCell ⟨v0.heap.size, 2, none⟩ (.slice p2 k2 c2)).setCell ⟨v0.heap.size, 3, none⟩ (.slice q2 l2 d2)) (v45.heap.size) _ := Box.stores_other (k := 0) (l := [.int .i64 0, .bool s2, .slice p2 k2 c2, .slice q2 l2 d2]) hX52 (by omega)
                have hG053 : Hid (FNorm ((((v52.setCell ⟨v0.heap.size, 0, none⟩ (.int .i64 0)).setCell ⟨v0.heap.size, 1, none⟩ (.bool s2)).setCell ⟨v0.heap.size, 2, none⟩ (.slice p2 k2 c2)).setCell ⟨v0.heap.size, 3, none⟩ (.slice q2 l2 d2)) (.agg #[.bool s1, .slice p1 k1 c1, .slice q1 l1 d1]) r1) := hid (FNorm.stores (k := 0) (l := [.int .i64 0, .bool s2, .slice p2 k2 c2, .slice q2 l2 d2]) hG052.out hY52 ⟨trivial, trivial, trivial, trivial, trivial⟩)
                have hG153 : Hid (FNorm ((((v52.setCell ⟨v0.heap.size, 0, none⟩ (.int .i64 0)).setCell ⟨v0.heap.size, 1, none⟩ (.bool s2)).setCell ⟨v0.heap.size, 2, none⟩ (.slice p2 k2 c2)).setCell ⟨v0.heap.size, 3, none⟩ (.slice q2 l2 d2)) (.agg #[.bool s2, .slice p2 k2 c2, .slice q2 l2 d2]) r2) := hid (FNorm.stores (k := 0) (l := [.int .i64 0, .bool s2, .slice p2 k2 c2, .slice q2 l2 d2]) hG152.out hY52 ⟨trivial, trivial, trivial, trivial, trivial⟩)
                have hz53 : ((((v52.setCell ⟨v0.heap.size, 0, none⟩ (.int .i64 0)).setCell ⟨v0.heap.size, 1, none⟩ (.bool s2)).setCell ⟨v0.heap.size, 2, none⟩ (.slice p2 k2 c2)).setCell ⟨v0.heap.size, 3, none⟩ (.slice q2 l2 d2)).heap.size = v52.heap.size := by simp
                have hz53 := Nat.le_of_eq hz53.symm
                generalize ((((v52.setCell ⟨v0.heap.size, 0, none⟩ (.int .i64 0)).setCell ⟨v0.heap.size, 1, none⟩ (.bool s2)).setCell ⟨v0.heap.size, 2, none⟩ (.slice p2 k2 c2)).setCell ⟨v0.heap.size, 3, none⟩ (.slice q2 l2 d2)) = v53 at *
                refine hK.out _ _ ?_ (fun hHeld => ?_)
                · exact HS.out _ hQ53
                clear hK K
                try simp only [Act.put, List.setIfInBounds_toArray, List.set_cons_zero, List.set_cons_succ]
                refine wpAnyH_done (by kernel_rfl) (NoPanic.normal ?_) _
                go_wp2_with fail
                go_meet
                exact ⟨v45.heap.size, v0.heap.size, s1, p1, k1, c1, q1, l1, d1, s2, p2, k2, c2, q2, l2, d2, rfl, rfl, by omega, hX53, hY53, hG053.out, hG153.out, hQ53.bel, by omega, by omega⟩
      · go_simp
        have hB54 : Below v44.heap.size v44 (v44.alloc (.cells #[.int .i64 0, .bool false, .slice none 0 0, .slice none 0 0] 59)) := (Below.refl _ _).alloc (Nat.le_refl _) _
        have hX54 := Box.mk' v44 [.int .i64 0, .bool false, .slice none 0 0, .slice none 0 0] 59 ⟨trivial, trivial, trivial, trivial, trivial⟩
        generalize v44.alloc (.cells #[.int .i64 0, .bool false, .slice none 0 0, .slice none 0 0] 59) = v54 at *
        have hQ54 := hQ44.call hB54
        have hz54 : v44.heap.size < v54.heap.size := hX54.lt
        have hY54 := hY44.below hB54
        refine hK.out _ _ ?_ (fun hHeld => ?_)
        · exact HS.out _ hQ54
        clear hK K
        try simp only [Act.put, List.setIfInBounds_toArray, List.set_cons_zero, List.set_cons_succ]
        refine wpAnyH_ready (rs := [2]) (by kernel_rfl) (by simp) ?_
        refine AllReadyH.cons rfl (fun K hK => ?_) AllReadyH.nil
        · go_simp
          go_at_call 57
          refine (HR1.out _ (HV.out.2.2.trans (hQ54.bel.mono HV.out.2.2.size))).mono ?_
          rintro e v55 ⟨s1, p1, k1, c1, q1, l1, d1, rfl, hF55, hB55⟩
          have hQ55 := hQ54.call hB55
          have hz55 : v54.heap.size ≤ v55.heap.size := hB55.size
          have hY55 := hY54.below hB55
          have hX55 := hX54.below hB55
          go_wp2_with fail
          refine hK.out _ _ ?_ (fun hHeld => ?_)
          · exact HS.out _ hQ55
          clear hK K
          try simp only [Act.put, List.setIfInBounds_toArray, List.set_cons_zero, List.set_cons_succ]
          refine wpAnyH_ready (rs := [5]) (by kernel_rfl) (by simp) ?_
          refine AllReadyH.cons rfl (fun K hK => ?_) AllReadyH.nil
          · go_simp
            go_at_call 57
            refine (HR2.out _ (HV.out.2.2.trans (hQ55.bel.mono HV.out.2.2.size))).mono ?_
            rintro e v56 ⟨s2, p2, k2, c2, q2, l2, d2, rfl, hF56, hB56⟩
            have hQ56 := hQ55.call hB56
            have hz56 : v55.heap.size ≤ v56.heap.size := hB56.size
            have hY56 := hY55.below hB56
            have hX56 := hX55.below hB56
            have hG056 := hid (FNorm.below hF55.out hB56)
            go_wp2_with fail
            refine hK.out _ _ ?_ (fun hHeld => ?_)
            · exact HS.out _ hQ56
            clear hK K
            try simp only [Act.put, List.setIfInBounds_toArray, List.set_cons_zero, List.set_cons_succ]
            refine wpAnyH_ready (rs := [8]) (by kernel_rfl) (by simp) ?_
            refine AllReadyH.cons rfl (fun K hK => ?_) AllReadyH.nil
            · obtain ⟨g57_0, g57_1, g57_2, g57_3, g57_4, g57_5, g57_6, g57_7⟩ := hX56.cells4
              go_simp
              have hQ57 : QQ _ _ ((((v56.setCell ⟨v44.heap.size, 0, none⟩ (.int .i64 0)).setCell ⟨v44.heap.size, 1, none⟩ (.bool s1)).setCell ⟨v44.heap.size, 2, none⟩ (.slice p1 k1 c1)).setCell ⟨v44.heap.size, 3, none⟩ (.slice q1 l1 d1)) := QQ.stores (k := 0) (vs := [.int .i64 0, .bool s1, .slice p1 k1 c1, .slice q1 l1 d1]) hQ56 (ne1 (by omega)) (by omega)
              have hX57 : Box ((((v56.setCell ⟨v44.heap.size, 0, none⟩ (.int .i64 0)).setCell ⟨v44.heap.size, 1, none⟩ (.bool s1)).setCell ⟨v44.heap.size, 2, none⟩ (.slice p1 k1 c1)).setCell ⟨v44.heap.size, 3, none⟩ (.slice q1 l1 d1)) (v44.heap.size) #[.int .i64 0, .bool s1, .slice p1 k1 c1, .slice q1 l1 d1] := hX56.stores [.int .i64 0, .bool s1, .slice p1 k1 c1, .slice q1 l1 d1] rfl ⟨trivial, trivial, trivial, trivial, trivial⟩
              have hY57 : Box ((((v56.setCell ⟨v44.heap.size, 0, none⟩ (.int .i64 0)).setCell ⟨v44.heap.size, 1, none⟩ (.bool s1)).setCell ⟨v44.heap.size, 2, none⟩ (.slice p1 k1 c1)).setCell ⟨v44.heap.size, 3, none⟩ (.slice q1 l1 d1)) (v0.heap.size) _ := Box.stores_other (k := 0) (l := [.int .i64 0, .bool s1, .slice p1 k1 c1, .slice q1 l1 d1]) hY56 (by omega)
              have hG057 : Hid (FNorm ((((v56.setCell ⟨v44.heap.size, 0, none⟩ (.int .i64 0)).setCell ⟨v44.heap.size, 1, none⟩ (.bool s1)).setCell ⟨v44.heap.size, 2, none⟩ (.slice p1 k1 c1)).setCell ⟨v44.heap.size, 3, none⟩ (.slice q1 l1 d1)) (.agg #[.bool s1, .slice p1 k1 c1, .slice q1 l1 d1]) r1) := hid (FNorm.stores (k := 0) (l := [.int .i64 0, .bool s1, .slice p1 k1 c1, .slice q1 l1 d1]) hG056.out hX56 ⟨trivial, trivial, trivial, trivial, trivial⟩)
              have hG157 : Hid (FNorm ((((v56.setCell ⟨v44.heap.size, 0, none⟩ (.int .i64 0)).setCell ⟨v44.heap.size, 1, none⟩ (.bool s1)).setCell ⟨v44.heap.size, 2, none⟩ (.slice p1 k1 c1)).setCell ⟨v44.heap.size, 3, none⟩ (.slice q1 l1 d1)) (.agg #[.bool s2, .slice p2 k2 c2, .slice q2 l2 d2]) r2) := hid (FNorm.stores (k := 0) (l := [.int .i64 0, .bool s1, .slice p1 k1 c1, .slice q1 l1 d1]) hF56.out hX56 ⟨trivial, trivial, trivial, trivial, trivial⟩)
              have hz57 : ((((v56.setCell ⟨v44.heap.size, 0, none⟩ (.int .i64 0)).setCell ⟨v44.heap.size, 1, none⟩ (.bool s1)).setCell ⟨v44.heap.size, 2, none⟩ (.slice p1 k1 c1)).setCell ⟨v44.heap.size, 3, none⟩ (.slice q1 l1 d1)).heap.size = v56.heap.size := by simp
              have hz57 := Nat.le_of_eq hz57.symm
              generalize ((((v56.setCell ⟨v44.heap.size, 0, none⟩ (.int .i64 0)).setCell ⟨v44.heap.size, 1, none⟩ (.bool s1)).setCell ⟨v44.heap.size, 2, none⟩ (.slice p1 k1 c1)).setCell ⟨v44.heap.size, 3, none⟩ (.slice q1 l1 d1)) = v57 at *
              refine hK.out _ _ ?_ (fun hHeld => ?_)
              · exact HS.out _ hQ57
              clear hK K
              try simp only [Act.put, List.setIfInBounds_toArray, List.set_cons_zero, List.set_cons_succ]
              refine wpAnyH_ready (rs := [9]) (by kernel_rfl) (by simp) ?_
              refine AllReadyH.cons rfl (fun K hK => ?_) AllReadyH.nil
              · obtain ⟨g58_0, g58_1, g58_2, g58_3, g58_4, g58_5, g58_6, g58_7⟩ := hY57.cells4
                go_simp
                have hQ58 : QQ _ _ ((((v57.setCell ⟨v0.heap.size, 0, none⟩ (.int .i64 0)).setCell ⟨v0.heap.size, 1, none⟩ (.bool s2)).setCell ⟨v0.heap.size, 2, none⟩ (.slice p2 k2 c2)).setCell ⟨v0.heap.size, 3, none⟩ (.slice q2 l2 d2)) := QQ.stores (k := 0) (vs := [.int .i64 0, .bool s2, .slice p2 k2 c2, .slice q2 l2 d2]) hQ57 (ne1 (by omega)) (by omega)
                have hY58 : Box ((((v57.setCell ⟨v0.heap.size, 0, none⟩ (.int .i64 0)).setCell ⟨v0.heap.size, 1, none⟩ (.bool s2)).setCell ⟨v0.heap.size, 2, none⟩ (.slice p2 k2 c2)).setCell ⟨v0.heap.size, 3, none⟩ (.slice q2 l2 d2)) (v0.heap.size) #[.int .i64 0, .bool s2, .slice p2 k2 c2, .slice q2 l2 d2] := hY57.stores [.int .i64 0, .bool s2, .slice p2 k2 c2, .slice q2 l2 d2] rfl ⟨trivial, trivial, trivial, trivial, trivial⟩
                have hX58 : Box ((((v57.setCell ⟨v0.heap.size, 0, none⟩ (.int .i64 0)).setCell ⟨v0.heap.size, 1, none⟩ (.bool s2)).setCell ⟨v0.heap.size, 2, none⟩ (.slice p2 k2 c2)).setCell ⟨v0.heap.size, 3, none⟩ (.slice q2 l2 d2)) (v44.heap.size) _ := Box.stores_other (k := 0) (l := [.int .i64 0, .bool s2, .slice p2 k2 c2, .slice q2 l2 d2]) hX57 (by omega)
                have hG058 : Hid (FNorm ((((v57.setCell ⟨v0.heap.size, 0, none⟩ (.int .i64 0)).setCell ⟨v0.heap.size, 1, none⟩ (.bool s2)).setCell ⟨v0.heap.size, 2, none⟩ (.slice p2 k2 c2)).setCell ⟨v0.heap.size, 3, none⟩ (.slice q2 l2 d2)) (.agg #[.bool s1, .slice p1 k1 c1, .slice q1 l1 d1]) r1) := hid (FNorm.stores (k := 0) (l := [.int .i64 0, .bool s2, .slice p2 k2 c2, .slice q2 l2 d2]) hG057.out hY57 ⟨trivial, trivial, trivial, trivial, trivial⟩)
                have hG158 : Hid (FNorm ((((v57.setCell ⟨v0.heap.size, 0, none⟩ (.int .i64 0)).setCell ⟨v0.heap.size, 1, none⟩ (.bool s2)).setCell ⟨v0.heap.size, 2, none⟩ (.slice p2 k2 c2)).setCell ⟨v0.heap.size, 3, none⟩ (.slice q2 l2 d2)) (.agg #[.bool s2, .slice p2 k2 c2, .slice q2 l2 d2]) r2) := hid (FNorm.stores (k := 0) (l := [.int .i64 0, .bool s2, .slice p2 k2 c2, .slice q2 l2 d2]) hG157.out hY57 ⟨trivial, trivial, trivial, trivial, trivial⟩)
                have hz58 : ((((v57.setCell ⟨v0.heap.size, 0, none⟩ (.int .i64 0)).setCell ⟨v0.heap.size, 1, none⟩ (.bool s2)).setCell ⟨v0.heap.size, 2, none⟩ (.slice p2 k2 c2)).setCell ⟨v0.heap.size, 3, none⟩ (.slice q2 l2 d2)).heap.size = v57.heap.size := by simp
                have hz58 := Nat.le_of_eq hz58.symm
                generalize ((((v57.setCell ⟨v0.heap.size, 0, none⟩ (.int .i64 0)).setCell ⟨v0.heap.size, 1, none⟩ (.bool s2)).setCell ⟨v0.heap.size, 2, none⟩ (.slice p2 k2 c2)).setCell ⟨v0.heap.size, 3, none⟩ (.slice q2 l2 d2)) = v58 at *
                refine hK.out _ _ ?_ (fun hHeld => ?_)
                · exact HS.out _ hQ58
                clear hK K
                try simp only [Act.put, List.setIfInBounds_toArray, List.set_cons_zero, List.set_cons_succ]
                refine wpAnyH_done (by kernel_rfl) (NoPanic.normal ?_) _
                go_wp2_with fail
                go_meet
                exact ⟨v44.heap.size, v0.heap.size, s1, p1, k1, c1, q1, l1, d1, s2, p2, k2, c2, q2, l2, d2, rfl, rfl, by omega, hX58, hY58, hG058.out, hG158.out, hQ58.bel, by omega, by omega⟩
  case rest =>
    obtain ⟨X, Y, s1, p1, k1, c1, q1, l1, d1, s2, p2, k2, c2, q2, l2, d2, rfl, rfl, hXY, hX, hY, hF1, hF2, hBc, hlX, hlY⟩ := hcut
    rw [HX.out.1] at hF1
    rw [HX.out.2] at hF2
    have hlw : w.heap.size + 1 < W0.heap.size := HV.out.2.1.lt
    have hYX : Y ≠ X := fun h => hXY h.symm
    have hW := HV.out.2.2.trans (hBc.mono HV.out.2.2.size)
    have HB := hid (And.intro hX (And.intro hY (And.intro hF1 (And.intro hF2 (And.intro (HV.out.1.below hBc) (And.intro (HV.out.2.1.below hBc) hW))))))
    clear hX hY hF1 hF2 hBc hW HR1 HR2 HX
    obtain ⟨a0, a1, a2, a3, a4, a5, a6, a7, _⟩ := HB.out.2.2.2.2.1.cells8
    obtain ⟨x0, x1, x2, x3, e0, e1, e2, e3⟩ := HB.out.1.cells4
    obtain ⟨y0, y1, y2, y3, f0, f1, f2, f3⟩ := HB.out.2.1.cells4
    clear HV
    cases x <;> cases y
    case false.false =>
      go_wp2_with fail
      refine (from_any 0 s1 p1 k1 c1 q1 l1 d1 0 s2 p2 k2 c2 q2 l2 d2 (rdE false (-1) a) (rdE false 1 b) 64 _ (ERep.mk rfl (HB.out.2.2.1)) (ERep.mk rfl (HB.out.2.2.2.1)) HE1.out HE2.out (by omega)).mono ?_
      rintro e wf ⟨rfl, hBf⟩
      have hR := (HB.out.2.2.2.2.2.1).below hBf
      obtain ⟨h0, h1, h2, h3, h4, h5, h6, h7, h8, i0, i1, i2, i3, i4, i5, i6, i7, i8⟩ := hR.cells9
      have HE := hid (And.intro hR (And.intro ((show FNorm wf _ _ from FNorm.below (HB.out.2.2.1) hBf)) (And.intro ((show FNorm wf _ _ from FNorm.below (HB.out.2.2.2.1) hBf)) ((HB.out.2.2.2.2.2.2).trans (hBf.mono (HB.out.2.2.2.2.2.2).size)))))
      clear hR
      obtain ⟨rr, hrr⟩ : ∃ r, r = decide (0 < ecmp (rdE false (-1) a) (rdE false 1 b)) := ⟨_, rfl⟩
      rw [← hrr]
      have HRR := hid hrr
      clear hrr
      go_wp2_with fail
      exact readSet_ret rfl (HE.out.1.stores [.int .i64 0, .bool s1, .slice p1 k1 c1, .slice q1 l1 d1, .int .i64 0, .bool s2, .slice p2 k2 c2, .slice q2 l2 d2, .bool rr] rfl ⟨trivial, trivial, trivial, trivial, trivial, trivial, trivial, trivial, trivial, trivial⟩) ⟨_, _, _, _, _, _, _, _, _, _, _, _, _, _, _, _, _, rfl, hid ⟨_, _, _, _, _, _, _, _, _, _, _, _, _, _, _, _, _, rfl, ERep.mk rfl (FNorm.stores (k := 0) (l := [.int .i64 0, .bool s1, .slice p1 k1 c1, .slice q1 l1 d1, .int .i64 0, .bool s2, .slice p2 k2 c2, .slice q2 l2 d2, .bool rr]) HE.out.2.1 HE.out.1 ⟨trivial, trivial, trivial, trivial, trivial, trivial, trivial, trivial, trivial, trivial⟩), ERep.mk rfl (FNorm.stores (k := 0) (l := [.int .i64 0, .bool s1, .slice p1 k1 c1, .slice q1 l1 d1, .int .i64 0, .bool s2, .slice p2 k2 c2, .slice q2 l2 d2, .bool rr]) HE.out.2.2.1 HE.out.1 ⟨trivial, trivial, trivial, trivial, trivial, trivial, trivial, trivial, trivial, trivial⟩), HRR.out⟩, Below.stores (k := 0) (l := [.int .i64 0, .bool s1, .slice p1 k1 c1, .slice q1 l1 d1, .int .i64 0, .bool s2, .slice p2 k2 c2, .slice q2 l2 d2, .bool rr]) HE.out.2.2.2 (by omega)⟩
    case false.true =>
      go_wp2_with fail
      have hRY : Box ((((wc.setCell ⟨Y, 0, none⟩ (.int .i64 (1))).setCell ⟨Y, 1, none⟩ (.bool false)).setCell ⟨Y, 2, none⟩ (.slice none 0 0)).setCell ⟨Y, 3, none⟩ (.slice none 0 0)) (w.heap.size + 1) _ := Box.stores_other (k := 0) (l := [.int .i64 (1), .bool false, .slice none 0 0, .slice none 0 0]) (HB.out.2.2.2.2.2.1) (by omega)
      have hLY : Below w.heap.size w ((((wc.setCell ⟨Y, 0, none⟩ (.int .i64 (1))).setCell ⟨Y, 1, none⟩ (.bool false)).setCell ⟨Y, 2, none⟩ (.slice none 0 0)).setCell ⟨Y, 3, none⟩ (.slice none 0 0)) := Below.stores (k := 0) (l := [.int .i64 (1), .bool false, .slice none 0 0, .slice none 0 0]) (HB.out.2.2.2.2.2.2) (by omega)
      have hFY1 : FNorm ((((wc.setCell ⟨Y, 0, none⟩ (.int .i64 (1))).setCell ⟨Y, 1, none⟩ (.bool false)).setCell ⟨Y, 2, none⟩ (.slice none 0 0)).setCell ⟨Y, 3, none⟩ (.slice none 0 0)) (.agg #[.bool s1, .slice p1 k1 c1, .slice q1 l1 d1]) _ := FNorm.stores (k := 0) (l := [.int .i64 (1), .bool false, .slice none 0 0, .slice none 0 0]) (HB.out.2.2.1) (HB.out.2.1) ⟨trivial, trivial, trivial, trivial, trivial⟩
      have hFY2 : FNorm ((((wc.setCell ⟨Y, 0, none⟩ (.int .i64 (1))).setCell ⟨Y, 1, none⟩ (.bool false)).setCell ⟨Y, 2, none⟩ (.slice none 0 0)).setCell ⟨Y, 3, none⟩ (.slice none 0 0)) (.agg #[.bool s2, .slice p2 k2 c2, .slice q2 l2 d2]) _ := FNorm.stores (k := 0) (l := [.int .i64 (1), .bool false, .slice none 0 0, .slice none 0 0]) (HB.out.2.2.2.1) (HB.out.2.1) ⟨trivial, trivial, trivial, trivial, trivial⟩
      refine (from_any 0 s1 p1 k1 c1 q1 l1 d1 (1) false none 0 0 none 0 0 (rdE false (-1) a) (rdE true 1 b) 64 _ (ERep.mk rfl (hFY1)) (ERep.mk rfl ⟨_, _, rfl, Rep.nil, Rep.nil⟩) HE1.out HE2.out (by omega)).mono ?_
      rintro e wf ⟨rfl, hBf⟩
      have hR := (hRY).below hBf
      obtain ⟨h0, h1, h2, h3, h4, h5, h6, h7, h8, i0, i1, i2, i3, i4, i5, i6, i7, i8⟩ := hR.cells9
      have HE := hid (And.intro hR (And.intro ((show FNorm wf _ _ from FNorm.below (hFY1) hBf)) (And.intro ((show FNorm wf _ _ from FNorm.below (hFY2) hBf)) ((hLY).trans (hBf.mono (hLY).size)))))
      clear hR
      obtain ⟨rr, hrr⟩ : ∃ r, r = decide (0 < ecmp (rdE false (-1) a) (rdE true 1 b)) := ⟨_, rfl⟩
      rw [← hrr]
      have HRR := hid hrr
      clear hrr
      go_wp2_with fail
      exact readSet_ret rfl (HE.out.1.stores [.int .i64 0, .bool s1, .slice p1 k1 c1, .slice q1 l1 d1, .int .i64 (1), .bool false, .slice none 0 0, .slice none 0 0, .bool rr] rfl ⟨trivial, trivial, trivial, trivial, trivial, trivial, trivial, trivial, trivial, trivial⟩) ⟨_, _, _, _, _, _, _, _, _, _, _, _, _, _, _, _, _, rfl, hid ⟨_, _, _, _, _, _, _, _, _, _, _, _, _, _, _, _, _, rfl, ERep.mk rfl (FNorm.stores (k := 0) (l := [.int .i64 0, .bool s1, .slice p1 k1 c1, .slice q1 l1 d1, .int .i64 (1), .bool false, .slice none 0 0, .slice none 0 0, .bool rr]) HE.out.2.1 HE.out.1 ⟨trivial, trivial, trivial, trivial, trivial, trivial, trivial, trivial, trivial, trivial⟩), ERep.mk rfl ⟨_, _, rfl, Rep.nil, Rep.nil⟩, HRR.out⟩, Below.stores (k := 0) (l := [.int .i64 0, .bool s1, .slice p1 k1 c1, .slice q1 l1 d1, .int .i64 (1), .bool false, .slice none 0 0, .slice none 0 0, .bool rr]) HE.out.2.2.2 (by omega)⟩
    case true.false =>
      go_wp2_with fail
      have hRX : Box ((((wc.setCell ⟨X, 0, none⟩ (.int .i64 (-1))).setCell ⟨X, 1, none⟩ (.bool false)).setCell ⟨X, 2, none⟩ (.slice none 0 0)).setCell ⟨X, 3, none⟩ (.slice none 0 0)) (w.heap.size + 1) _ := Box.stores_other (k := 0) (l := [.int .i64 (-1), .bool false, .slice none 0 0, .slice none 0 0]) (HB.out.2.2.2.2.2.1) (by omega)
      have hLX : Below w.heap.size w ((((wc.setCell ⟨X, 0, none⟩ (.int .i64 (-1))).setCell ⟨X, 1, none⟩ (.bool false)).setCell ⟨X, 2, none⟩ (.slice none 0 0)).setCell ⟨X, 3, none⟩ (.slice none 0 0)) := Below.stores (k := 0) (l := [.int .i64 (-1), .bool false, .slice none 0 0, .slice none 0 0]) (HB.out.2.2.2.2.2.2) (by omega)
      have hFX1 : FNorm ((((wc.setCell ⟨X, 0, none⟩ (.int .i64 (-1))).setCell ⟨X, 1, none⟩ (.bool false)).setCell ⟨X, 2, none⟩ (.slice none 0 0)).setCell ⟨X, 3, none⟩ (.slice none 0 0)) (.agg #[.bool s1, .slice p1 k1 c1, .slice q1 l1 d1]) _ := FNorm.stores (k := 0) (l := [.int .i64 (-1), .bool false, .slice none 0 0, .slice none 0 0]) (HB.out.2.2.1) (HB.out.1) ⟨trivial, trivial, trivial, trivial, trivial⟩
      have hFX2 : FNorm ((((wc.setCell ⟨X, 0, none⟩ (.int .i64 (-1))).setCell ⟨X, 1, none⟩ (.bool false)).setCell ⟨X, 2, none⟩ (.slice none 0 0)).setCell ⟨X, 3, none⟩ (.slice none 0 0)) (.agg #[.bool s2, .slice p2 k2 c2, .slice q2 l2 d2]) _ := FNorm.stores (k := 0) (l := [.int .i64 (-1), .bool false, .slice none 0 0, .slice none 0 0]) (HB.out.2.2.2.1) (HB.out.1) ⟨trivial, trivial, trivial, trivial, trivial⟩
      have hYX2 : Box ((((wc.setCell ⟨X, 0, none⟩ (.int .i64 (-1))).setCell ⟨X, 1, none⟩ (.bool false)).setCell ⟨X, 2, none⟩ (.slice none 0 0)).setCell ⟨X, 3, none⟩ (.slice none 0 0)) Y _ := Box.stores_other (k := 0) (l := [.int .i64 (-1), .bool false, .slice none 0 0, .slice none 0 0]) (HB.out.2.1) (by omega)
      refine (from_any (-1) false none 0 0 none 0 0 0 s2 p2 k2 c2 q2 l2 d2 (rdE true (-1) a) (rdE false 1 b) 64 _ (ERep.mk rfl ⟨_, _, rfl, Rep.nil, Rep.nil⟩) (ERep.mk rfl (hFX2)) HE1.out HE2.out (by omega)).mono ?_
      rintro e wf ⟨rfl, hBf⟩
      have hR := (hRX).below hBf
      obtain ⟨h0, h1, h2, h3, h4, h5, h6, h7, h8, i0, i1, i2, i3, i4, i5, i6, i7, i8⟩ := hR.cells9
      have HE := hid (And.intro hR (And.intro ((show FNorm wf _ _ from FNorm.below (hFX1) hBf)) (And.intro ((show FNorm wf _ _ from FNorm.below (hFX2) hBf)) ((hLX).trans (hBf.mono (hLX).size)))))
      clear hR
      obtain ⟨rr, hrr⟩ : ∃ r, r = decide (0 < ecmp (rdE true (-1) a) (rdE false 1 b)) := ⟨_, rfl⟩
      rw [← hrr]
      have HRR := hid hrr
      clear hrr
      go_wp2_with fail
      exact readSet_ret rfl (HE.out.1.stores [.int .i64 (-1), .bool false, .slice none 0 0, .slice none 0 0, .int .i64 0, .bool s2, .slice p2 k2 c2, .slice q2 l2 d2, .bool rr] rfl ⟨trivial, trivial, trivial, trivial, trivial, trivial, trivial, trivial, trivial, trivial⟩) ⟨_, _, _, _, _, _, _, _, _, _, _, _, _, _, _, _, _, rfl, hid ⟨_, _, _, _, _, _, _, _, _, _, _, _, _, _, _, _, _, rfl, ERep.mk rfl ⟨_, _, rfl, Rep.nil, Rep.nil⟩, ERep.mk rfl (FNorm.stores (k := 0) (l := [.int .i64 (-1), .bool false, .slice none 0 0, .slice none 0 0, .int .i64 0, .bool s2, .slice p2 k2 c2, .slice q2 l2 d2, .bool rr]) HE.out.2.2.1 HE.out.1 ⟨trivial, trivial, trivial, trivial, trivial, trivial, trivial, trivial, trivial, trivial⟩), HRR.out⟩, Below.stores (k := 0) (l := [.int .i64 (-1), .bool false, .slice none 0 0, .slice none 0 0, .int .i64 0, .bool s2, .slice p2 k2 c2, .slice q2 l2 d2, .bool rr]) HE.out.2.2.2 (by omega)⟩
    case true.true =>
      go_wp2_with fail
      have hRX : Box ((((wc.setCell ⟨X, 0, none⟩ (.int .i64 (-1))).setCell ⟨X, 1, none⟩ (.bool false)).setCell ⟨X, 2, none⟩ (.slice none 0 0)).setCell ⟨X, 3, none⟩ (.slice none 0 0)) (w.heap.size + 1) _ := Box.stores_other (k := 0) (l := [.int .i64 (-1), .bool false, .slice none 0 0, .slice none 0 0]) (HB.out.2.2.2.2.2.1) (by omega)
      have hLX : Below w.heap.size w ((((wc.setCell ⟨X, 0, none⟩ (.int .i64 (-1))).setCell ⟨X, 1, none⟩ (.bool false)).setCell ⟨X, 2, none⟩ (.slice none 0 0)).setCell ⟨X, 3, none⟩ (.slice none 0 0)) := Below.stores (k := 0) (l := [.int .i64 (-1), .bool false, .slice none 0 0, .slice none 0 0]) (HB.out.2.2.2.2.2.2) (by omega)
      have hFX1 : FNorm ((((wc.setCell ⟨X, 0, none⟩ (.int .i64 (-1))).setCell ⟨X, 1, none⟩ (.bool false)).setCell ⟨X, 2, none⟩ (.slice none 0 0)).setCell ⟨X, 3, none⟩ (.slice none 0 0)) (.agg #[.bool s1, .slice p1 k1 c1, .slice q1 l1 d1]) _ := FNorm.stores (k := 0) (l := [.int .i64 (-1), .bool false, .slice none 0 0, .slice none 0 0]) (HB.out.2.2.1) (HB.out.1) ⟨trivial, trivial, trivial, trivial, trivial⟩
      have hFX2 : FNorm ((((wc.setCell ⟨X, 0, none⟩ (.int .i64 (-1))).setCell ⟨X, 1, none⟩ (.bool false)).setCell ⟨X, 2, none⟩ (.slice none 0 0)).setCell ⟨X, 3, none⟩ (.slice none 0 0)) (.agg #[.bool s2, .slice p2 k2 c2, .slice q2 l2 d2]) _ := FNorm.stores (k := 0) (l := [.int .i64 (-1), .bool false, .slice none 0 0, .slice none 0 0]) (HB.out.2.2.2.1) (HB.out.1) ⟨trivial, trivial, trivial, trivial, trivial⟩
      have hYX2 : Box ((((wc.setCell ⟨X, 0, none⟩ (.int .i64 (-1))).setCell ⟨X, 1, none⟩ (.bool false)).setCell ⟨X, 2, none⟩ (.slice none 0 0)).setCell ⟨X, 3, none⟩ (.slice none 0 0)) Y _ := Box.stores_other (k := 0) (l := [.int .i64 (-1), .bool false, .slice none 0 0, .slice none 0 0]) (HB.out.2.1) (by omega)
      have hRY : Box ((((((((wc.setCell ⟨X, 0, none⟩ (.int .i64 (-1))).setCell ⟨X, 1, none⟩ (.bool false)).setCell ⟨X, 2, none⟩ (.slice none 0 0)).setCell ⟨X, 3, none⟩ (.slice none 0 0)).setCell ⟨Y, 0, none⟩ (.int .i64 (1))).setCell ⟨Y, 1, none⟩ (.bool false)).setCell ⟨Y, 2, none⟩ (.slice none 0 0)).setCell ⟨Y, 3, none⟩ (.slice none 0 0)) (w.heap.size + 1) _ := Box.stores_other (k := 0) (l := [.int .i64 (1), .bool false, .slice none 0 0, .slice none 0 0]) (hRX) (by omega)
      have hLY : Below w.heap.size w ((((((((wc.setCell ⟨X, 0, none⟩ (.int .i64 (-1))).setCell ⟨X, 1, none⟩ (.bool false)).setCell ⟨X, 2, none⟩ (.slice none 0 0)).setCell ⟨X, 3, none⟩ (.slice none 0 0)).setCell ⟨Y, 0, none⟩ (.int .i64 (1))).setCell ⟨Y, 1, none⟩ (.bool false)).setCell ⟨Y, 2, none⟩ (.slice none 0 0)).setCell ⟨Y, 3, none⟩ (.slice none 0 0)) := Below.stores (k := 0) (l := [.int .i64 (1), .bool false, .slice none 0 0, .slice none 0 0]) (hLX) (by omega)
      have hFY1 : FNorm ((((((((wc.setCell ⟨X, 0, none⟩ (.int .i64 (-1))).setCell ⟨X, 1, none⟩ (.bool false)).setCell ⟨X, 2, none⟩ (.slice none 0 0)).setCell ⟨X, 3, none⟩ (.slice none 0 0)).setCell ⟨Y, 0, none⟩ (.int .i64 (1))).setCell ⟨Y, 1, none⟩ (.bool false)).setCell ⟨Y, 2, none⟩ (.slice none 0 0)).setCell ⟨Y, 3, none⟩ (.slice none 0 0)) (.agg #[.bool s1, .slice p1 k1 c1, .slice q1 l1 d1]) _ := FNorm.stores (k := 0) (l := [.int .i64 (1), .bool false, .slice none 0 0, .slice none 0 0]) (hFX1) (hYX2) ⟨trivial, trivial, trivial, trivial, trivial⟩
      have hFY2 : FNorm ((((((((wc.setCell ⟨X, 0, none⟩ (.int .i64 (-1))).setCell ⟨X, 1, none⟩ (.bool false)).setCell ⟨X, 2, none⟩ (.slice none 0 0)).setCell ⟨X, 3, none⟩ (.slice none 0 0)).setCell ⟨Y, 0, none⟩ (.int .i64 (1))).setCell ⟨Y, 1, none⟩ (.bool false)).setCell ⟨Y, 2, none⟩ (.slice none 0 0)).setCell ⟨Y, 3, none⟩ (.slice none 0 0)) (.agg #[.bool s2, .slice p2 k2 c2, .slice q2 l2 d2]) _ := FNorm.stores (k := 0) (l := [.int .i64 (1), .bool false, .slice none 0 0, .slice none 0 0]) (hFX2) (hYX2) ⟨trivial, trivial, trivial, trivial, trivial⟩
      refine (from_any (-1) false none 0 0 none 0 0 (1) false none 0 0 none 0 0 (rdE true (-1) a) (rdE true 1 b) 64 _ (ERep.mk rfl ⟨_, _, rfl, Rep.nil, Rep.nil⟩) (ERep.mk rfl ⟨_, _, rfl, Rep.nil, Rep.nil⟩) HE1.out HE2.out (by omega)).mono ?_
      rintro e wf ⟨rfl, hBf⟩
      have hR := (hRY).below hBf
      obtain ⟨h0, h1, h2, h3, h4, h5, h6, h7, h8, i0, i1, i2, i3, i4, i5, i6, i7, i8⟩ := hR.cells9
      have HE := hid (And.intro hR (And.intro ((show FNorm wf _ _ from FNorm.below (hFY1) hBf)) (And.intro ((show FNorm wf _ _ from FNorm.below (hFY2) hBf)) ((hLY).trans (hBf.mono (hLY).size)))))
      clear hR
      obtain ⟨rr, hrr⟩ : ∃ r, r = decide (0 < ecmp (rdE true (-1) a) (rdE true 1 b)) := ⟨_, rfl⟩
      rw [← hrr]
      have HRR := hid hrr
      clear hrr
      go_wp2_with fail
      exact readSet_ret rfl (HE.out.1.stores [.int .i64 (-1), .bool false, .slice none 0 0, .slice none 0 0, .int .i64 (1), .bool false, .slice none 0 0, .slice none 0 0, .bool rr] rfl ⟨trivial, trivial, trivial, trivial, trivial, trivial, trivial, trivial, trivial, trivial⟩) ⟨_, _, _, _, _, _, _, _, _, _, _, _, _, _, _, _, _, rfl, hid ⟨_, _, _, _, _, _, _, _, _, _, _, _, _, _, _, _, _, rfl, ERep.mk rfl ⟨_, _, rfl, Rep.nil, Rep.nil⟩, ERep.mk rfl ⟨_, _, rfl, Rep.nil, Rep.nil⟩, HRR.out⟩, Below.stores (k := 0) (l := [.int .i64 (-1), .bool false, .slice none 0 0, .slice none 0 0, .int .i64 (1), .bool false, .slice none 0 0, .slice none 0 0, .bool rr]) HE.out.2.2.2 (by omega)⟩
end Go.Proofs.YtgjjcmclikiojaaGreatDoor
