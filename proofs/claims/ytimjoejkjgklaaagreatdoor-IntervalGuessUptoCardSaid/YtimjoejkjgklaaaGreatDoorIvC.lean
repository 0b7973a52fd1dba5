/- Sets of the program: reading an interval with a large number. -/
import Derived.Test.YtimjoejkjgklaaaGreatDoorIvB
set_option maxHeartbeats 4000000
set_option maxRecDepth 100000
namespace Go.Proofs.YtimjoejkjgklaaaGreatDoor
open Go.RowKit Dg
theorem readSet_l1 (s : Bool) (p : Option Addr) (k c : Nat) (q : Option Addr) (l d : Nat) (sz : Bool) (pz : Option Addr) (kz cz : Nat) (qz : Option Addr) (lz dz : Nat) (x : Bool) (y : Bool) (a : Bool × Nat × Nat) (w : World) (ha : NRep w (.agg #[.bool s, .slice p k c, .slice q l d]) a) (h1 : large a.2.1 a.2.2 = true) (ht : TabOk w) :
    Calls Tryz.prog 96 #[.agg #[.bool s, .slice p k c, .slice q l d, .bool sz, .slice pz kz cz, .slice qz lz dz, .bool x, .bool y]] w fun e w' => e = pan 1 ∧ Below w.heap.size w w' := by
  have HR1 := hid (fun (W : World) (hW : Below w.heap.size w W) => read_large (.agg #[.bool s, .slice p k c, .slice q l d]) a W (ha.below hW) h1 (ht.below hW))
  clear ha h1 ht
  go_enter Tryz.func96, Tryz.ntmps96
  go_upto_region 1 with fail
  have HV := hid (pre2 w [.bool s, .slice p k c, .slice q l d, .bool sz, .slice pz kz cz, .slice qz lz dz, .bool x, .bool y] [.int .i64 0, .bool false, .slice none 0 0, .slice none 0 0, .int .i64 0, .bool false, .slice none 0 0, .slice none 0 0, .bool false] 26 61 nd8 nd9)
  generalize (w.alloc (.cells #[.bool s, .slice p k c, .slice q l d, .bool sz, .slice pz kz cz, .slice qz lz dz, .bool x, .bool y] 26)).alloc (.cells #[.int .i64 0, .bool false, .slice none 0 0, .slice none 0 0, .int .i64 0, .bool false, .slice none 0 0, .slice none 0 0, .bool false] 61) = W0 at *
  have HS : Hid (∀ w', QQ W0 [(w.heap.size, [.bool s, .slice p k c, .slice q l d, .bool sz, .slice pz kz cz, .slice qz lz dz, .bool x, .bool y])] w' → (w'.cell? ⟨w.heap.size, 0, none⟩ = some (.bool s) ∧ w'.cell? ⟨w.heap.size, 1, none⟩ = some (.slice p k c) ∧ w'.cell? ⟨w.heap.size, 2, none⟩ = some (.slice q l d) ∧ w'.cell? ⟨w.heap.size, 3, none⟩ = some (.bool sz) ∧ w'.cell? ⟨w.heap.size, 4, none⟩ = some (.slice pz kz cz) ∧ w'.cell? ⟨w.heap.size, 5, none⟩ = some (.slice qz lz dz) ∧ w'.cell? ⟨w.heap.size, 6, none⟩ = some (.bool x) ∧ w'.cell? ⟨w.heap.size, 7, none⟩ = some (.bool y) ∧ Hid (QQ W0 [(w.heap.size, [.bool s, .slice p k c, .slice q l d, .bool sz, .slice pz kz cz, .slice qz lz dz, .bool x, .bool y])] w'))) :=
    hid fun w' hb => ⟨(hb.b1.cells8).1, (hb.b1.cells8).2.1, (hb.b1.cells8).2.2.1, (hb.b1.cells8).2.2.2.1, (hb.b1.cells8).2.2.2.2.1, (hb.b1.cells8).2.2.2.2.2.1, (hb.b1.cells8).2.2.2.2.2.2.1, (hb.b1.cells8).2.2.2.2.2.2.2.1, hid hb⟩
  have HQ := hid (QQ.i1 (cs := [.bool s, .slice p k c, .slice q l d, .bool sz, .slice pz kz cz, .slice qz lz dz, .bool x, .bool y]) HV.out.1 (Below.refl W0.heap.size W0))
  have hz0 : w.heap.size + 1 < W0.heap.size := HV.out.2.1.lt
  skip
  refine wp_region_held_drew (S := (fun w' => w'.cell? ⟨w.heap.size, 0, none⟩ = some (.bool s) ∧ w'.cell? ⟨w.heap.size, 1, none⟩ = some (.slice p k c) ∧ w'.cell? ⟨w.heap.size, 2, none⟩ = some (.slice q l d) ∧ w'.cell? ⟨w.heap.size, 3, none⟩ = some (.bool sz) ∧ w'.cell? ⟨w.heap.size, 4, none⟩ = some (.slice pz kz cz) ∧ w'.cell? ⟨w.heap.size, 5, none⟩ = some (.slice qz lz dz) ∧ w'.cell? ⟨w.heap.size, 6, none⟩ = some (.bool x) ∧ w'.cell? ⟨w.heap.size, 7, none⟩ = some (.bool y) ∧ Hid (QQ W0 [(w.heap.size, [.bool s, .slice p k c, .slice q l d, .bool sz, .slice pz kz cz, .slice qz lz dz, .bool x, .bool y])] w'))) (by kernel_rfl) (HS.out _ HQ.out.drew) (fun hHeld => ?_)
  refine wpAnyH_take (i := 0) (v := ?vv0) rfl (by kernel_rfl) (by kernel_rfl) (by kernel_rfl) (fun _ _ _ h => h) (Or.inl ⟨by rfl, ?hy0⟩) (by assumption) ?_
  case hy0 => (intro w' hSw; (try dsimp only at hSw); go_simp; first | done | with_reducible rfl)
  simp only [Act.put]
  refine wpAnyH_take (i := 1) (v := ?vv1) rfl (by kernel_rfl) (by kernel_rfl) (by kernel_rfl) (fun _ _ _ h => h) (Or.inl ⟨by rfl, ?hy1⟩) (by assumption) ?_
  case hy1 => (intro w' hSw; (try dsimp only at hSw); go_simp; first | done | with_reducible rfl)
  simp only [Act.put]
  refine wpAnyH_take (i := 3) (v := ?vv3) rfl (by kernel_rfl) (by kernel_rfl) (by kernel_rfl) (fun _ _ _ h => h) (Or.inl ⟨by rfl, ?hy3⟩) (by assumption) ?_
  case hy3 => (intro w' hSw; (try dsimp only at hSw); go_simp; first | done | with_reducible rfl)
  simp only [Act.put]
  refine wpAnyH_take (i := 4) (v := ?vv4) rfl (by kernel_rfl) (by kernel_rfl) (by kernel_rfl) (fun _ _ _ h => h) (Or.inl ⟨by rfl, ?hy4⟩) (by assumption) ?_
  case hy4 => (intro w' hSw; (try dsimp only at hSw); go_simp; first | done | with_reducible rfl)
  simp only [Act.put]
  have hQ0 := HQ.out.drew; have hz : W0.heap.size ≤ W0.drew.heap.size := Nat.le_refl _; generalize W0.drew = v0 at *
  refine wpAnyH_ready (rs := [2, 6, 7]) (by kernel_rfl) (by simp) ?_
  refine AllReadyH.cons rfl (fun K hK => ?_) (AllReadyH.cons rfl (fun K hK => ?_) (AllReadyH.cons rfl (fun K hK => ?_) AllReadyH.nil))
  · go_simp
    go_at_call 82
    refine (HR1.out _ (HV.out.2.2.trans (hQ0.bel.mono HV.out.2.2.size))).mono ?_
    rintro e v1 ⟨rfl, hB1⟩
    exact ⟨rfl, rfl, HV.out.2.2.trans ((hQ0.bel.trans (hB1.mono hQ0.bel.size)).mono HV.out.2.2.size)⟩
  · go_simp
    have hB2 : Below v0.heap.size v0 (v0.alloc (.cells #[.int .i64 0, .bool false, .slice none 0 0, .slice none 0 0] 59)) := (Below.refl _ _).alloc (Nat.le_refl _) _
    have hX2 := Box.mk' v0 [.int .i64 0, .bool false, .slice none 0 0, .slice none 0 0] 59 ⟨trivial, trivial, trivial, trivial, trivial⟩
    generalize v0.alloc (.cells #[.int .i64 0, .bool false, .slice none 0 0, .slice none 0 0] 59) = v2 at *
    have hQ2 := hQ0.call hB2
    have hz2 : v0.heap.size < v2.heap.size := hX2.lt
    refine hK.out _ _ ?_ (fun hHeld => ?_)
    · exact HS.out _ hQ2
    clear hK K
    try simp only [Act.put, List.setIfInBounds_toArray, List.set_cons_zero, List.set_cons_succ]
    refine wpAnyH_ready (rs := [2, 7]) (by kernel_rfl) (by simp) ?_
    refine AllReadyH.cons rfl (fun K hK => ?_) (AllReadyH.cons rfl (fun K hK => ?_) AllReadyH.nil)
    · go_simp
      go_at_call 82
      refine (HR1.out _ (HV.out.2.2.trans (hQ2.bel.mono HV.out.2.2.size))).mono ?_
      rintro e v3 ⟨rfl, hB3⟩
      exact ⟨rfl, rfl, HV.out.2.2.trans ((hQ2.bel.trans (hB3.mono hQ2.bel.size)).mono HV.out.2.2.size)⟩
    · go_simp
      have hB4 : Below v2.heap.size v2 (v2.alloc (.cells #[.int .i64 0, .bool false, .slice none 0 0, .slice none 0 0] 59)) := (Below.refl _ _).alloc (Nat.le_refl _) _
      have hY4 := Box.mk' v2 [.int .i64 0, .bool false, .slice none 0 0, .slice none 0 0] 59 ⟨trivial, trivial, trivial, trivial, trivial⟩
      generalize v2.alloc (.cells #[.int .i64 0, .bool false, .slice none 0 0, .slice none 0 0] 59) = v4 at *
      have hQ4 := hQ2.call hB4
      have hz4 : v2.heap.size < v4.heap.size := hY4.lt
      have hX4 := hX2.below hB4
      refine hK.out _ _ ?_ (fun hHeld => ?_)
      · exact HS.out _ hQ4
      clear hK K
      try simp only [Act.put, List.setIfInBounds_toArray, List.set_cons_zero, List.set_cons_succ]
      refine wpAnyH_ready (rs := [2]) (by kernel_rfl) (by simp) ?_
      refine AllReadyH.cons rfl (fun K hK => ?_) AllReadyH.nil
      · go_simp
        go_at_call 82
        refine (HR1.out _ (HV.out.2.2.trans (hQ4.bel.mono HV.out.2.2.size))).mono ?_
        rintro e v5 ⟨rfl, hB5⟩
        exact ⟨rfl, rfl, HV.out.2.2.trans ((hQ4.bel.trans (hB5.mono hQ4.bel.size)).mono HV.out.2.2.size)⟩
  · go_simp
    have hB6 : Below v0.heap.size v0 (v0.alloc (.cells #[.int .i64 0, .bool false, .slice none 0 0, .slice none 0 0] 59)) := (Below.refl _ _).alloc (Nat.le_refl _) _
    have hY6 := Box.mk' v0 [.int .i64 0, .bool false, .slice none 0 0, .slice none 0 0] 59 ⟨trivial, trivial, trivial, trivial, trivial⟩
    generalize v0.alloc (.cells #[.int .i64 0, .bool false, .slice none 0 0, .slice none 0 0] 59) = v6 at *
    have hQ6 := hQ0.call hB6
    have hz6 : v0.heap.size < v6.heap.size := hY6.lt
    refine hK.out _ _ ?_ (fun hHeld => ?_)
    · exact HS.out _ hQ6
    clear hK K
    try simp only [Act.put, List.setIfInBounds_toArray, List.set_cons_zero, List.set_cons_succ]
    refine wpAnyH_ready (rs := [2, 6]) (by kernel_rfl) (by simp) ?_
    refine AllReadyH.cons rfl (fun K hK => ?_) (AllReadyH.cons rfl (fun K hK => ?_) AllReadyH.nil)
    · go_simp
      go_at_call 82
      refine (HR1.out _ (HV.out.2.2.trans (hQ6.bel.mono HV.out.2.2.size))).mono ?_
      rintro e v7 ⟨rfl, hB7⟩
      exact ⟨rfl, rfl, HV.out.2.2.trans ((hQ6.bel.trans (hB7.mono hQ6.bel.size)).mono HV.out.2.2.size)⟩
    · go_simp
      have hB8 : Below v6.heap.size v6 (v6.alloc (.cells #[.int .i64 0, .bool false, .slice none 0 0, .slice none 0 0] 59)) := (Below.refl _ _).alloc (Nat.le_refl _) _
      have hX8 := Box.mk' v6 [.int .i64 0, .bool false, .slice none 0 0, .slice none 0 0] 59 ⟨trivial, trivial, trivial, trivial, trivial⟩
      generalize v6.alloc (.cells #[.int .i64 0, .bool false, .slice none 0 0, .slice none 0 0] 59) = v8 at *
      have hQ8 := hQ6.call hB8
      have hz8 : v6.heap.size < v8.heap.size := hX8.lt
      have hY8 := hY6.below hB8
      refine hK.out _ _ ?_ (fun hHeld => ?_)
      · exact HS.out _ hQ8
      clear hK K
      try simp only [Act.put, List.setIfInBounds_toArray, List.set_cons_zero, List.set_cons_succ]
      refine wpAnyH_ready (rs := [2]) (by kernel_rfl) (by simp) ?_
      refine AllReadyH.cons rfl (fun K hK => ?_) AllReadyH.nil
      · go_simp
        go_at_call 82
        refine (HR1.out _ (HV.out.2.2.trans (hQ8.bel.mono HV.out.2.2.size))).mono ?_
        rintro e v9 ⟨rfl, hB9⟩
        exact ⟨rfl, rfl, HV.out.2.2.trans ((hQ8.bel.trans (hB9.mono hQ8.bel.size)).mono HV.out.2.2.size)⟩
theorem readSet_l2 (s : Bool) (p : Option Addr) (k c : Nat) (q : Option Addr) (l d : Nat) (sz : Bool) (pz : Option Addr) (kz cz : Nat) (qz : Option Addr) (lz dz : Nat) (x : Bool) (y : Bool) (a b : Bool × Nat × Nat) (w : World) (ha : NRep w (.agg #[.bool s, .slice p k c, .slice q l d]) a) (hb : NRep w (.agg #[.bool sz, .slice pz kz cz, .slice qz lz dz]) b) (h1 : large a.2.1 a.2.2 = false) (h2 : large b.2.1 b.2.2 = true) (ht : TabOk w) :
    Calls Tryz.prog 96 #[.agg #[.bool s, .slice p k c, .slice q l d, .bool sz, .slice pz kz cz, .slice qz lz dz, .bool x, .bool y]] w fun e w' => e = pan 1 ∧ Below w.heap.size w w' := by
  have HR1 := hid (fun (W : World) (hW : Below w.heap.size w W) => read_ok (.agg #[.bool s, .slice p k c, .slice q l d]) a W (ha.below hW) h1 (ht.below hW))
  have HR2 := hid (fun (W : World) (hW : Below w.heap.size w W) => read_large (.agg #[.bool sz, .slice pz kz cz, .slice qz lz dz]) b W (hb.below hW) h2 (ht.below hW))
  obtain ⟨r1, hr1⟩ : ∃ r, r = fr a := ⟨_, rfl⟩
  rw [← hr1] at HR1
  clear hr1
  clear ha hb h1 h2 ht
  go_enter Tryz.func96, Tryz.ntmps96
  go_upto_region 1 with fail
  have HV := hid (pre2 w [.bool s, .slice p k c, .slice q l d, .bool sz, .slice pz kz cz, .slice qz lz dz, .bool x, .bool y] [.int .i64 0, .bool false, .slice none 0 0, .slice none 0 0, .int .i64 0, .bool false, .slice none 0 0, .slice none 0 0, .bool false] 26 61 nd8 nd9)
  generalize (w.alloc (.cells #[.bool s, .slice p k c, .slice q l d, .bool sz, .slice pz kz cz, .slice qz lz dz, .bool x, .bool y] 26)).alloc (.cells #[.int .i64 0, .bool false, .slice none 0 0, .slice none 0 0, .int .i64 0, .bool false, .slice none 0 0, .slice none 0 0, .bool false] 61) = W0 at *
  have HS : Hid (∀ w', QQ W0 [(w.heap.size, [.bool s, .slice p k c, .slice q l d, .bool sz, .slice pz kz cz, .slice qz lz dz, .bool x, .bool y])] w' → (w'.cell? ⟨w.heap.size, 0, none⟩ = some (.bool s) ∧ w'.cell? ⟨w.heap.size, 1, none⟩ = some (.slice p k c) ∧ w'.cell? ⟨w.heap.size, 2, none⟩ = some (.slice q l d) ∧ w'.cell? ⟨w.heap.size, 3, none⟩ = some (.bool sz) ∧ w'.cell? ⟨w.heap.size, 4, none⟩ = some (.slice pz kz cz) ∧ w'.cell? ⟨w.heap.size, 5, none⟩ = some (.slice qz lz dz) ∧ w'.cell? ⟨w.heap.size, 6, none⟩ = some (.bool x) ∧ w'.cell? ⟨w.heap.size, 7, none⟩ = some (.bool y) ∧ Hid (QQ W0 [(w.heap.size, [.bool s, .slice p k c, .slice q l d, .bool sz, .slice pz kz cz, .slice qz lz dz, .bool x, .bool y])] w'))) :=
    hid fun w' hb => ⟨(hb.b1.cells8).1, (hb.b1.cells8).2.1, (hb.b1.cells8).2.2.1, (hb.b1.cells8).2.2.2.1, (hb.b1.cells8).2.2.2.2.1, (hb.b1.cells8).2.2.2.2.2.1, (hb.b1.cells8).2.2.2.2.2.2.1, (hb.b1.cells8).2.2.2.2.2.2.2.1, hid hb⟩
  have HQ := hid (QQ.i1 (cs := [.bool s, .slice p k c, .slice q l d, .bool sz, .slice pz kz cz, .slice qz lz dz, .bool x, .bool y]) HV.out.1 (Below.refl W0.heap.size W0))
  have hz0 : w.heap.size + 1 < W0.heap.size := HV.out.2.1.lt
  skip
  refine wp_region_held_drew (S := (fun w' => w'.cell? ⟨w.heap.size, 0, none⟩ = some (.bool s) ∧ w'.cell? ⟨w.heap.size, 1, none⟩ = some (.slice p k c) ∧ w'.cell? ⟨w.heap.size, 2, none⟩ = some (.slice q l d) ∧ w'.cell? ⟨w.heap.size, 3, none⟩ = some (.bool sz) ∧ w'.cell? ⟨w.heap.size, 4, none⟩ = some (.slice pz kz cz) ∧ w'.cell? ⟨w.heap.size, 5, none⟩ = some (.slice qz lz dz) ∧ w'.cell? ⟨w.heap.size, 6, none⟩ = some (.bool x) ∧ w'.cell? ⟨w.heap.size, 7, none⟩ = some (.bool y) ∧ Hid (QQ W0 [(w.heap.size, [.bool s, .slice p k c, .slice q l d, .bool sz, .slice pz kz cz, .slice qz lz dz, .bool x, .bool y])] w'))) (by kernel_rfl) (HS.out _ HQ.out.drew) (fun hHeld => ?_)
  refine wpAnyH_take (i := 0) (v := ?vv0) rfl (by kernel_rfl) (by kernel_rfl) (by kernel_rfl) (fun _ _ _ h => h) (Or.inl ⟨by rfl, ?hy0⟩) (by assumption) ?_
  case hy0 => (intro w' hSw; (try dsimp only at hSw); go_simp; first | done | with_reducible rfl)
  simp only [Act.put]
  refine wpAnyH_take (i := 1) (v := ?vv1) rfl (by kernel_rfl) (by kernel_rfl) (by kernel_rfl) (fun _ _ _ h => h) (Or.inl ⟨by rfl, ?hy1⟩) (by assumption) ?_
  case hy1 => (intro w' hSw; (try dsimp only at hSw); go_simp; first | done | with_reducible rfl)
  simp only [Act.put]
  refine wpAnyH_take (i := 3) (v := ?vv3) rfl (by kernel_rfl) (by kernel_rfl) (by kernel_rfl) (fun _ _ _ h => h) (Or.inl ⟨by rfl, ?hy3⟩) (by assumption) ?_
  case hy3 => (intro w' hSw; (try dsimp only at hSw); go_simp; first | done | with_reducible rfl)
  simp only [Act.put]
  refine wpAnyH_take (i := 4) (v := ?vv4) rfl (by kernel_rfl) (by kernel_rfl) (by kernel_rfl) (fun _ _ _ h => h) (Or.inl ⟨by rfl, ?hy4⟩) (by assumption) ?_
  case hy4 => (intro w' hSw; (try dsimp only at hSw); go_simp; first | done | with_reducible rfl)
  simp only [Act.put]
  have hQ0 := HQ.out.drew; have hz : W0.heap.size ≤ W0.drew.heap.size := Nat.le_refl _; generalize W0.drew = v0 at *
  refine wpAnyH_ready (rs := [2, 6, 7]) (by kernel_rfl) (by simp) ?_
  refine AllReadyH.cons rfl (fun K hK => ?_) (AllReadyH.cons rfl (fun K hK => ?_) (AllReadyH.cons rfl (fun K hK => ?_) AllReadyH.nil))
  · go_simp
    go_at_call 82
    refine (HR1.out _ (HV.out.2.2.trans (hQ0.bel.mono HV.out.2.2.size))).mono ?_
    rintro e v1 ⟨s1, p1, k1, c1, q1, l1, d1, rfl, hF1, hB1⟩
    have hQ1 := hQ0.call hB1
    have hz1 : v0.heap.size ≤ v1.heap.size := hB1.size
    go_wp2_with fail
    refine hK.out _ _ ?_ (fun hHeld => ?_)
    · exact HS.out _ hQ1
    clear hK K
    try simp only [Act.put, List.setIfInBounds_toArray, List.set_cons_zero, List.set_cons_succ]
    refine wpAnyH_ready (rs := [5, 6, 7]) (by kernel_rfl) (by simp) ?_
    refine AllReadyH.cons rfl (fun K hK => ?_) (AllReadyH.cons rfl (fun K hK => ?_) (AllReadyH.cons rfl (fun K hK => ?_) AllReadyH.nil))
    · go_simp
      go_at_call 82
      refine (HR2.out _ (HV.out.2.2.trans (hQ1.bel.mono HV.out.2.2.size))).mono ?_
      rintro e v2 ⟨rfl, hB2⟩
      exact ⟨rfl, rfl, HV.out.2.2.trans ((hQ1.bel.trans (hB2.mono hQ1.bel.size)).mono HV.out.2.2.size)⟩
    · go_simp
      have hB3 : Below v1.heap.size v1 (v1.alloc (.cells #[.int .i64 0, .bool false, .slice none 0 0, .slice none 0 0] 59)) := (Below.refl _ _).alloc (Nat.le_refl _) _
      have hX3 := Box.mk' v1 [.int .i64 0, .bool false, .slice none 0 0, .slice none 0 0] 59 ⟨trivial, trivial, trivial, trivial, trivial⟩
      generalize v1.alloc (.cells #[.int .i64 0, .bool false, .slice none 0 0, .slice none 0 0] 59) = v3 at *
      have hQ3 := hQ1.call hB3
      have hz3 : v1.heap.size < v3.heap.size := hX3.lt
      have hG03 := hid (FNorm.below hF1.out hB3)
      refine hK.out _ _ ?_ (fun hHeld => ?_)
      · exact HS.out _ hQ3
      clear hK K
      try simp only [Act.put, List.setIfInBounds_toArray, List.set_cons_zero, List.set_cons_succ]
      refine wpAnyH_ready (rs := [5, 7]) (by kernel_rfl) (by simp) ?_
      refine AllReadyH.cons rfl (fun K hK => ?_) (AllReadyH.cons rfl (fun K hK => ?_) AllReadyH.nil)
      · go_simp
        go_at_call 82
        refine (HR2.out _ (HV.out.2.2.trans (hQ3.bel.mono HV.out.2.2.size))).mono ?_
        rintro e v4 ⟨rfl, hB4⟩
        exact ⟨rfl, rfl, HV.out.2.2.trans ((hQ3.bel.trans (hB4.mono hQ3.bel.size)).mono HV.out.2.2.size)⟩
      · go_simp
        have hB5 : Below v3.heap.size v3 (v3.alloc (.cells #[.int .i64 0, .bool false, .slice none 0 0, .slice none 0 0] 59)) := (Below.refl _ _).alloc (Nat.le_refl _) _
        have hY5 := Box.mk' v3 [.int .i64 0, .bool false, .slice none 0 0, .slice none 0 0] 59 ⟨trivial, trivial, trivial, trivial, trivial⟩
        generalize v3.alloc (.cells #[.int .i64 0, .bool false, .slice none 0 0, .slice none 0 0] 59) = v5 at *
        have hQ5 := hQ3.call hB5
        have hz5 : v3.heap.size < v5.heap.size := hY5.lt
        have hX5 := hX3.below hB5
        have hG05 := hid (FNorm.below hG03.out hB5)
        refine hK.out _ _ ?_ (fun hHeld => ?_)
        · exact HS.out _ hQ5
        clear hK K
        try simp only [Act.put, List.setIfInBounds_toArray, List.set_cons_zero, List.set_cons_succ]
        refine wpAnyH_ready (rs := [5]) (by kernel_rfl) (by simp) ?_
        refine AllReadyH.cons rfl (fun K hK => ?_) AllReadyH.nil
        · go_simp
          go_at_call 82
          refine (HR2.out _ (HV.out.2.2.trans (hQ5.bel.mono HV.out.2.2.size))).mono ?_
          rintro e v6 ⟨rfl, hB6⟩
          exact ⟨rfl, rfl, HV.out.2.2.trans ((hQ5.bel.trans (hB6.mono hQ5.bel.size)).mono HV.out.2.2.size)⟩
    · go_simp
      have hB7 : Below v1.heap.size v1 (v1.alloc (.cells #[.int .i64 0, .bool false, .slice none 0 0, .slice none 0 0] 59)) := (Below.refl _ _).alloc (Nat.le_refl _) _
      have hY7 := Box.mk' v1 [.int .i64 0, .bool false, .slice none 0 0, .slice none 0 0] 59 ⟨trivial, trivial, trivial, trivial, trivial⟩
      generalize v1.alloc (.cells #[.int .i64 0, .bool false, .slice none 0 0, .slice none 0 0] 59) = v7 at *
      have hQ7 := hQ1.call hB7
      have hz7 : v1.heap.size < v7.heap.size := hY7.lt
      have hG07 := hid (FNorm.below hF1.out hB7)
      refine hK.out _ _ ?_ (fun hHeld => ?_)
      · exact HS.out _ hQ7
      clear hK K
      try simp only [Act.put, List.setIfInBounds_toArray, List.set_cons_zero, List.set_cons_succ]
      refine wpAnyH_ready (rs := [5, 6]) (by kernel_rfl) (by simp) ?_
      refine AllReadyH.cons rfl (fun K hK => ?_) (AllReadyH.cons rfl (fun K hK => ?_) AllReadyH.nil)
      · go_simp
        go_at_call 82
        refine (HR2.out _ (HV.out.2.2.trans (hQ7.bel.mono HV.out.2.2.size))).mono ?_
        rintro e v8 ⟨rfl, hB8⟩
        exact ⟨rfl, rfl, HV.out.2.2.trans ((hQ7.bel.trans (hB8.mono hQ7.bel.size)).mono HV.out.2.2.size)⟩
      · go_simp
        have hB9 : Below v7.heap.size v7 (v7.alloc (.cells #[.int .i64 0, .bool false, .slice none 0 0, .slice none 0 0] 59)) := (Below.refl _ _).alloc (Nat.le_refl _) _
        have hX9 := Box.mk' v7 [.int .i64 0, .bool false, .slice none 0 0, .slice none 0 0] 59 ⟨trivial, trivial, trivial, trivial, trivial⟩
        generalize v7.alloc (.cells #[.int .i64 0, .bool false, .slice none 0 0, .slice none 0 0] 59) = v9 at *
        have hQ9 := hQ7.call hB9
        have hz9 : v7.heap.size < v9.heap.size := hX9.lt
        have hY9 := hY7.below hB9
        have hG09 := hid (FNorm.below hG07.out hB9)
        refine hK.out _ _ ?_ (fun hHeld => ?_)
        · exact HS.out _ hQ9
        clear hK K
        try simp only [Act.put, List.setIfInBounds_toArray, List.set_cons_zero, List.set_cons_succ]
        refine wpAnyH_ready (rs := [5]) (by kernel_rfl) (by simp) ?_
        refine AllReadyH.cons rfl (fun K hK => ?_) AllReadyH.nil
        · go_simp
          go_at_call 82
          refine (HR2.out _ (HV.out.2.2.trans (hQ9.bel.mono HV.out.2.2.size))).mono ?_
          rintro e v10 ⟨rfl, hB10⟩
          exact ⟨rfl, rfl, HV.out.2.2.trans ((hQ9.bel.trans (hB10.mono hQ9.bel.size)).mono HV.out.2.2.size)⟩
  · go_simp
    have hB11 : Below v0.heap.size v0 (v0.alloc (.cells #[.int .i64 0, .bool false, .slice none 0 0, .slice none 0 0] 59)) := (Below.refl _ _).alloc (Nat.le_refl _) _
    have hX11 := Box.mk' v0 [.int .i64 0, .bool false, .slice none 0 0, .slice none 0 0] 59 ⟨trivial, trivial, trivial, trivial, trivial⟩
    generalize v0.alloc (.cells #[.int .i64 0, .bool false, .slice none 0 0, .slice none 0 0] 59) = v11 at *
    have hQ11 := hQ0.call hB11
    have hz11 : v0.heap.size < v11.heap.size := hX11.lt
    refine hK.out _ _ ?_ (fun hHeld => ?_)
    · exact HS.out _ hQ11
    clear hK K
    try simp only [Act.put, List.setIfInBounds_toArray, List.set_cons_zero, List.set_cons_succ]
    refine wpAnyH_ready (rs := [2, 7]) (by kernel_rfl) (by simp) ?_
    refine AllReadyH.cons rfl (fun K hK => ?_) (AllReadyH.cons rfl (fun K hK => ?_) AllReadyH.nil)
    · go_simp
      go_at_call 82
      refine (HR1.out _ (HV.out.2.2.trans (hQ11.bel.mono HV.out.2.2.size))).mono ?_
      rintro e v12 ⟨s1, p1, k1, c1, q1, l1, d1, rfl, hF12, hB12⟩
      have hQ12 := hQ11.call hB12
      have hz12 : v11.heap.size ≤ v12.heap.size := hB12.size
      have hX12 := hX11.below hB12
      go_wp2_with fail
      refine hK.out _ _ ?_ (fun hHeld => ?_)
      · exact HS.out _ hQ12
      clear hK K
      try simp only [Act.put, List.setIfInBounds_toArray, List.set_cons_zero, List.set_cons_succ]
      refine wpAnyH_ready (rs := [5, 7]) (by kernel_rfl) (by simp) ?_
      refine AllReadyH.cons rfl (fun K hK => ?_) (AllReadyH.cons rfl (fun K hK => ?_) AllReadyH.nil)
      · go_simp
        go_at_call 82
        refine (HR2.out _ (HV.out.2.2.trans (hQ12.bel.mono HV.out.2.2.size))).mono ?_
        rintro e v13 ⟨rfl, hB13⟩
        exact ⟨rfl, rfl, HV.out.2.2.trans ((hQ12.bel.trans (hB13.mono hQ12.bel.size)).mono HV.out.2.2.size)⟩
      · go_simp
        have hB14 : Below v12.heap.size v12 (v12.alloc (.cells #[.int .i64 0, .bool false, .slice none 0 0, .slice none 0 0] 59)) := (Below.refl _ _).alloc (Nat.le_refl _) _
        have hY14 := Box.mk' v12 [.int .i64 0, .bool false, .slice none 0 0, .slice none 0 0] 59 ⟨trivial, trivial, trivial, trivial, trivial⟩
        generalize v12.alloc (.cells #[.int .i64 0, .bool false, .slice none 0 0, .slice none 0 0] 59) = v14 at *
        have hQ14 := hQ12.call hB14
        have hz14 : v12.heap.size < v14.heap.size := hY14.lt
        have hX14 := hX12.below hB14
        have hG014 := hid (FNorm.below hF12.out hB14)
        refine hK.out _ _ ?_ (fun hHeld => ?_)
        · exact HS.out _ hQ14
        clear hK K
        try simp only [Act.put, List.setIfInBounds_toArray, List.set_cons_zero, List.set_cons_succ]
        refine wpAnyH_ready (rs := [5]) (by kernel_rfl) (by simp) ?_
        refine AllReadyH.cons rfl (fun K hK => ?_) AllReadyH.nil
        · go_simp
          go_at_call 82
          refine (HR2.out _ (HV.out.2.2.trans (hQ14.bel.mono HV.out.2.2.size))).mono ?_
          rintro e v15 ⟨rfl, hB15⟩
          exact ⟨rfl, rfl, HV.out.2.2.trans ((hQ14.bel.trans (hB15.mono hQ14.bel.size)).mono HV.out.2.2.size)⟩
    · go_simp
      have hB16 : Below v11.heap.size v11 (v11.alloc (.cells #[.int .i64 0, .bool false, .slice none 0 0, .slice none 0 0] 59)) := (Below.refl _ _).alloc (Nat.le_refl _) _
      have hY16 := Box.mk' v11 [.int .i64 0, .bool false, .slice none 0 0, .slice none 0 0] 59 ⟨trivial, trivial, trivial, trivial, trivial⟩
      generalize v11.alloc (.cells #[.int .i64 0, .bool false, .slice none 0 0, .slice none 0 0] 59) = v16 at *
      have hQ16 := hQ11.call hB16
      have hz16 : v11.heap.size < v16.heap.size := hY16.lt
      have hX16 := hX11.below hB16
      refine hK.out _ _ ?_ (fun hHeld => ?_)
      · exact HS.out _ hQ16
      clear hK K
      try simp only [Act.put, List.setIfInBounds_toArray, List.set_cons_zero, List.set_cons_succ]
      refine wpAnyH_ready (rs := [2]) (by kernel_rfl) (by simp) ?_
      refine AllReadyH.cons rfl (fun K hK => ?_) AllReadyH.nil
      · go_simp
        go_at_call 82
        refine (HR1.out _ (HV.out.2.2.trans (hQ16.bel.mono HV.out.2.2.size))).mono ?_
        rintro e v17 ⟨s1, p1, k1, c1, q1, l1, d1, rfl, hF17, hB17⟩
        have hQ17 := hQ16.call hB17
        have hz17 : v16.heap.size ≤ v17.heap.size := hB17.size
        have hX17 := hX16.below hB17
        have hY17 := hY16.below hB17
        go_wp2_with fail
        refine hK.out _ _ ?_ (fun hHeld => ?_)
        · exact HS.out _ hQ17
        clear hK K
        try simp only [Act.put, List.setIfInBounds_toArray, List.set_cons_zero, List.set_cons_succ]
        refine wpAnyH_ready (rs := [5]) (by kernel_rfl) (by simp) ?_
        refine AllReadyH.cons rfl (fun K hK => ?_) AllReadyH.nil
        · go_simp
          go_at_call 82
          refine (HR2.out _ (HV.out.2.2.trans (hQ17.bel.mono HV.out.2.2.size))).mono ?_
          rintro e v18 ⟨rfl, hB18⟩
          exact ⟨rfl, rfl, HV.out.2.2.trans ((hQ17.bel.trans (hB18.mono hQ17.bel.size)).mono HV.out.2.2.size)⟩
  · go_simp
    have hB19 : Below v0.heap.size v0 (v0.alloc (.cells #[.int .i64 0, .bool false, .slice none 0 0, .slice none 0 0] 59)) := (Below.refl _ _).alloc (Nat.le_refl _) _
    have hY19 := Box.mk' v0 [.int .i64 0, .bool false, .slice none 0 0, .slice none 0 0] 59 ⟨trivial, trivial, trivial, trivial, trivial⟩
    generalize v0.alloc (.cells #[.int .i64 0, .bool false, .slice none 0 0, .slice none 0 0] 59) = v19 at *
    have hQ19 := hQ0.call hB19
    have hz19 : v0.heap.size < v19.heap.size := hY19.lt
    refine hK.out _ _ ?_ (fun hHeld => ?_)
    · exact HS.out _ hQ19
    clear hK K
    try simp only [Act.put, List.setIfInBounds_toArray, List.set_cons_zero, List.set_cons_succ]
    refine wpAnyH_ready (rs := [2, 6]) (by kernel_rfl) (by simp) ?_
    refine AllReadyH.cons rfl (fun K hK => ?_) (AllReadyH.cons rfl (fun K hK => ?_) AllReadyH.nil)
    · go_simp
      go_at_call 82
      refine (HR1.out _ (HV.out.2.2.trans (hQ19.bel.mono HV.out.2.2.size))).mono ?_
      rintro e v20 ⟨s1, p1, k1, c1, q1, l1, d1, rfl, hF20, hB20⟩
      have hQ20 := hQ19.call hB20
      have hz20 : v19.heap.size ≤ v20.heap.size := hB20.size
      have hY20 := hY19.below hB20
      go_wp2_with fail
      refine hK.out _ _ ?_ (fun hHeld => ?_)
      · exact HS.out _ hQ20
      clear hK K
      try simp only [Act.put, List.setIfInBounds_toArray, List.set_cons_zero, List.set_cons_succ]
      refine wpAnyH_ready (rs := [5, 6]) (by kernel_rfl) (by simp) ?_
      refine AllReadyH.cons rfl (fun K hK => ?_) (AllReadyH.cons rfl (fun K hK => ?_) AllReadyH.nil)
      · go_simp
        go_at_call 82
        refine (HR2.out _ (HV.out.2.2.trans (hQ20.bel.mono HV.out.2.2.size))).mono ?_
        rintro e v21 ⟨rfl, hB21⟩
        exact ⟨rfl, rfl, HV.out.2.2.trans ((hQ20.bel.trans (hB21.mono hQ20.bel.size)).mono HV.out.2.2.size)⟩
      · go_simp
        have hB22 : Below v20.heap.size v20 (v20.alloc (.cells #[.int .i64 0, .bool false, .slice none 0 0, .slice none 0 0] 59)) := (Below.refl _ _).alloc (Nat.le_refl _) _
        have hX22 := Box.mk' v20 [.int .i64 0, .bool false, .slice none 0 0, .slice none 0 0] 59 ⟨trivial, trivial, trivial, trivial, trivial⟩
        generalize v20.alloc (.cells #[.int .i64 0, .bool false, .slice none 0 0, .slice none 0 0] 59) = v22 at *
        have hQ22 := hQ20.call hB22
        have hz22 : v20.heap.size < v22.heap.size := hX22.lt
        have hY22 := hY20.below hB22
        have hG022 := hid (FNorm.below hF20.out hB22)
        refine hK.out _ _ ?_ (fun hHeld => ?_)
        · exact HS.out _ hQ22
        clear hK K
        try simp only [Act.put, List.setIfInBounds_toArray, List.set_cons_zero, List.set_cons_succ]
        refine wpAnyH_ready (rs := [5]) (by kernel_rfl) (by simp) ?_
        refine AllReadyH.cons rfl (fun K hK => ?_) AllReadyH.nil
        · go_simp
          go_at_call 82
          refine (HR2.out _ (HV.out.2.2.trans (hQ22.bel.mono HV.out.2.2.size))).mono ?_
          rintro e v23 ⟨rfl, hB23⟩
          exact ⟨rfl, rfl, HV.out.2.2.trans ((hQ22.bel.trans (hB23.mono hQ22.bel.size)).mono HV.out.2.2.size)⟩
    · go_simp
      have hB24 : Below v19.heap.size v19 (v19.alloc (.cells #[.int .i64 0, .bool false, .slice none 0 0, .slice none 0 0] 59)) := (Below.refl _ _).alloc (Nat.le_refl _) _
      have hX24 := Box.mk' v19 [.int .i64 0, .bool false, .slice none 0 0, .slice none 0 0] 59 ⟨trivial, trivial, trivial, trivial, trivial⟩
      generalize v19.alloc (.cells #[.int .i64 0, .bool false, .slice none 0 0, .slice none 0 0] 59) = v24 at *
      have hQ24 := hQ19.call hB24
      have hz24 : v19.heap.size < v24.heap.size := hX24.lt
      have hY24 := hY19.below hB24
      refine hK.out _ _ ?_ (fun hHeld => ?_)
      · exact HS.out _ hQ24
      clear hK K
      try simp only [Act.put, List.setIfInBounds_toArray, List.set_cons_zero, List.set_cons_succ]
      refine wpAnyH_ready (rs := [2]) (by kernel_rfl) (by simp) ?_
      refine AllReadyH.cons rfl (fun K hK => ?_) AllReadyH.nil
      · go_simp
        go_at_call 82
        refine (HR1.out _ (HV.out.2.2.trans (hQ24.bel.mono HV.out.2.2.size))).mono ?_
        rintro e v25 ⟨s1, p1, k1, c1, q1, l1, d1, rfl, hF25, hB25⟩
        have hQ25 := hQ24.call hB25
        have hz25 : v24.heap.size ≤ v25.heap.size := hB25.size
        have hY25 := hY24.below hB25
        have hX25 := hX24.below hB25
        go_wp2_with fail
        refine hK.out _ _ ?_ (fun hHeld => ?_)
        · exact HS.out _ hQ25
        clear hK K
        try simp only [Act.put, List.setIfInBounds_toArray, List.set_cons_zero, List.set_cons_succ]
        refine wpAnyH_ready (rs := [5]) (by kernel_rfl) (by simp) ?_
        refine AllReadyH.cons rfl (fun K hK => ?_) AllReadyH.nil
        · go_simp
          go_at_call 82
          refine (HR2.out _ (HV.out.2.2.trans (hQ25.bel.mono HV.out.2.2.size))).mono ?_
          rintro e v26 ⟨rfl, hB26⟩
          exact ⟨rfl, rfl, HV.out.2.2.trans ((hQ25.bel.trans (hB26.mono hQ25.bel.size)).mono HV.out.2.2.size)⟩
theorem readSet_pan (s : Bool) (p : Option Addr) (k c : Nat) (q : Option Addr) (l d : Nat) (sz : Bool) (pz : Option Addr) (kz cz : Nat) (qz : Option Addr) (lz dz : Nat) (x : Bool) (y : Bool) (a b : Bool × Nat × Nat) (w : World) (ha : NRep w (.agg #[.bool s, .slice p k c, .slice q l d]) a) (hb : NRep w (.agg #[.bool sz, .slice pz kz cz, .slice qz lz dz]) b) (h : (large a.2.1 a.2.2 || large b.2.1 b.2.2) = true) (ht : TabOk w) :
    Calls Tryz.prog 96 #[.agg #[.bool s, .slice p k c, .slice q l d, .bool sz, .slice pz kz cz, .slice qz lz dz, .bool x, .bool y]] w fun e w' => e = pan 1 ∧ Below w.heap.size w w' := by
  cases h1 : large a.2.1 a.2.2
  · rw [h1, Bool.false_or] at h
    exact readSet_l2 s p k c q l d sz pz kz cz qz lz dz x y a b w ha hb h1 h ht
  · exact readSet_l1 s p k c q l d sz pz kz cz qz lz dz x y a w ha h1 ht
end Go.Proofs.YtimjoejkjgklaaaGreatDoor
