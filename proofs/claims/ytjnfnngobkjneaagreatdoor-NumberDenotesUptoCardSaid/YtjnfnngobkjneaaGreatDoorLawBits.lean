/- The law NumberBits. -/
import Derived.Test.YtjnfnngobkjneaaGreatDoorBitsQ
namespace Go.Proofs.YtjnfnngobkjneaaGreatDoor
open Go.RowKit Dg


theorem den1_self2 {d : Nat} (hd : 0 < d) : den1 d = d := by unfold den1; rw [if_neg (by omega)]

set_option maxHeartbeats 4000000 in
set_option maxRecDepth 100000 in
theorem fBits_any (v : Value) (t : Bool × Nat × Nat) (bn bd : Nat) (w : World) (h : FNorm w v t) (hn : t.2.1 < W32 ^ 1000000000) (hd : t.2.2 < W32 ^ 1000000000) (hbn : Len 2 t.2.1 bn) (hbd : Len 2 t.2.2 bd) :
    Calls Tryz.prog 51 #[v] w fun e w' => e = .returned (.int .i64 (max (bn : Int) bd)) ∧ Below w.heap.size w w' := by
  obtain ⟨vn1, vd1, rfl, hrn, hrd⟩ := h
  have HNn := hid (fun (W : World) (hW : Below w.heap.size w W) => (Bits_any vn1 t.2.1 W (hrn.below hW) hn).mono (R' := fun e w' => e = .returned (.int .i64 bn) ∧ W = w') fun _ _ hR => by obtain ⟨b, rfl, hb, hw⟩ := hR; exact ⟨by rw [Len.unique (by decide) hb hbn], hw⟩)
  have HNd := hid (fun (W : World) (hW : Below w.heap.size w W) => (Bits_any vd1 t.2.2 W (hrd.below hW) hd).mono (R' := fun e w' => e = .returned (.int .i64 bd) ∧ W = w') fun _ _ hR => by obtain ⟨b, rfl, hb, hw⟩ := hR; exact ⟨by rw [Len.unique (by decide) hb hbd], hw⟩)
  clear hn hd hbn hbd
  obtain ⟨p1, k1, c1, rfl, _⟩ := hrn
  obtain ⟨p2, k2, c2, rfl, _⟩ := hrd
  obtain ⟨s1, hs1⟩ : ∃ s, s = t.1 := ⟨_, rfl⟩
  rw [← hs1]
  clear hs1
  have hal := (Below.refl w.heap.size w).alloc (Nat.le_refl _) (.cells #[.bool s1, .slice p1 k1 c1, .slice p2 k2 c2] 50)
  have hV := Var3.alloc w (x := .bool s1) (y := .slice p1 k1 c1) (z := .slice p2 k2 c2) 50 trivial trivial trivial
  go_enter Tryz.func51, Tryz.ntmps51
  go_upto_region 1 with fail
  generalize w.alloc (.cells #[.bool s1, .slice p1 k1 c1, .slice p2 k2 c2] 50) = W0 at *
  have HB := hid hal
  have HS : Hid (∀ w', Below W0.heap.size W0 w' → (w'.cell? ⟨w.heap.size, 0, none⟩ = some (.bool s1) ∧ w'.cell? ⟨w.heap.size, 1, none⟩ = some (.slice p1 k1 c1) ∧ w'.cell? ⟨w.heap.size, 2, none⟩ = some (.slice p2 k2 c2) ∧ Hid (Below W0.heap.size W0 w'))) := hid fun w' hb => ⟨(hV.below hb).cells.1, (hV.below hb).cells.2.1, (hV.below hb).cells.2.2.1, hid hb⟩
  clear hal hV
  go_region_held3 (fun w' => w'.cell? ⟨w.heap.size, 0, none⟩ = some (.bool s1) ∧ w'.cell? ⟨w.heap.size, 1, none⟩ = some (.slice p1 k1 c1) ∧ w'.cell? ⟨w.heap.size, 2, none⟩ = some (.slice p2 k2 c2) ∧ Hid (Below W0.heap.size W0 w'))
    (first | exact HS.out _ (Below.refl _ _).drew | (exact HS.out _ (by assumption)))
    (first
      | (go_at_call_of 96 k1; refine (HNn.out _ (HB.out.trans ((held3' (N := W0.heap.size) (W0 := W0) (by assumption)).mono HB.out.size))).mono ?_; rintro e wa ⟨rfl, rfl⟩)
      | (go_at_call_of 96 k2; refine (HNd.out _ (HB.out.trans ((held3' (N := W0.heap.size) (W0 := W0) (by assumption)).mono HB.out.size))).mono ?_; rintro e wb ⟨rfl, rfl⟩))
  rename_i hHeld
  clear hHeld
  go_wp2_with fail
  go_ret
  exact ⟨rfl, HB.out.drew⟩

theorem nBits_ret {W : World} {x y : Value} {tm : Array Value} {R : Ending → World → Prop} (h2 : tm[2]?.getD undef = x) (h3 : tm[3]?.getD undef = y) (hR : R (.returned (.tuple #[x, y])) W) :
    bodyPost Tryz.prog Tryz.f20 R .ret { tmps := tm, defers := [] } W :=
  bodyPost_ret (v := .tuple #[x, y]) (by simp [results, Tryz.results20, go_sem, h2, h3]) rfl hR

set_option maxHeartbeats 2000000 in
set_option maxRecDepth 100000 in
theorem nBits_any (v : Value) (a : Bool × Nat × Nat) (w : World) (G : Int) (HG : ∀ (W : World) (v' : Value), FNorm W v' (fr a) → large a.2.1 a.2.2 = false → Calls Tryz.prog 51 #[v'] W fun e w' => e = .returned (.int .i64 G) ∧ Below W.heap.size W w') (h : NRep w v a) (ht : TabOk w) :
    Calls Tryz.prog 20 #[v] w fun e w' => e = .returned (.tuple #[.int .i64 (if large a.2.1 a.2.2 then 0 else G), .int .i64 (sgc a)]) ∧ Below w.heap.size w w' := by
  have HA := hid h
  have HT := hid ht
  replace HG := hid HG
  clear ht
  obtain ⟨vn, vd, rfl, ⟨p1, k1, c1, rfl, _⟩, ⟨p2, k2, c2, rfl, _⟩⟩ := h
  obtain ⟨s1, hs1⟩ : ∃ s1, s1 = a.1 := ⟨_, rfl⟩
  rw [← hs1] at HA ⊢
  clear hs1
  have hal := (Below.refl w.heap.size w).alloc (Nat.le_refl _) (.cells #[.bool s1, .slice p1 k1 c1, .slice p2 k2 c2] 24)
  have hV := Var3.alloc w (x := .bool s1) (y := .slice p1 k1 c1) (z := .slice p2 k2 c2) 24 trivial trivial trivial
  cases hL : large a.2.1 a.2.2
  · have hO := hid (Of_small _ a _ (HA.out.below hal) (HT.out.below hal) hL)
    rw [show sgc a = 0 by unfold sgc; rw [hL]; rfl, if_neg (by decide)]
    have HS := hid (fun W v' (hF : FNorm W v' (fr a)) => HG.out W v' hF hL)
    clear hL HG
    go_enter Tryz.func20, Tryz.ntmps20
    go_upto_region 1 with fail
    generalize w.alloc (.cells #[.bool s1, .slice p1 k1 c1, .slice p2 k2 c2] 24) = W0 at *
    obtain ⟨a0, a1, a2, _⟩ := hV.cells
    go_wp2_with fail
    refine hO.out.mono ?_
    rintro e w1 ⟨hB1, sg, pa, ka, ca, pb, kb, cb, rfl, hF⟩
    clear hO hV a0 a1 a2
    have hal1 := (Below.refl w1.heap.size w1).alloc (Nat.le_refl _) (.cells #[.bool sg, .slice pa ka ca, .slice pb kb cb] 50)
    have hV1 := Var3.alloc w1 (x := .bool sg) (y := .slice pa ka ca) (z := .slice pb kb cb) 50 trivial trivial trivial
    have hF1 := hid (HS.out _ _ (hF.out.below hal1))
    go_upto_region 2 with fail
    have HB := hid (hal.trans ((held_any hB1 hal1).mono hal.size))
    clear hB1 hal1 hF HS
    generalize w1.alloc (.cells #[.bool sg, .slice pa ka ca, .slice pb kb cb] 50) = W2 at *
    generalize w1.heap.size = X at *
    obtain ⟨a0, a1, a2, _⟩ := hV1.cells
    clear hV1 hal
    go_wp2_with fail
    refine hF1.out.mono ?_
    rintro e w3 ⟨rfl, hB3⟩
    clear a0 a1 a2 hF1
    go_wp2_with fail
    exact nBits_ret rfl rfl ⟨rfl, HB.out.trans (hB3.mono HB.out.size)⟩
  · have hO := hid (Of_large _ a _ (HA.out.below hal) (HT.out.below hal) hL)
    rw [show sgc a = 1 by unfold sgc; rw [hL]; rfl, if_pos rfl]
    clear hL
    go_enter Tryz.func20, Tryz.ntmps20
    go_upto_region 1 with fail
    generalize w.alloc (.cells #[.bool s1, .slice p1 k1 c1, .slice p2 k2 c2] 24) = W0 at *
    obtain ⟨a0, a1, a2, _⟩ := hV.cells
    go_wp2_with fail
    refine hO.out.mono ?_
    rintro e w1 ⟨rfl, hB1⟩
    have HB := hid (hal.trans (hB1.mono hal.size))
    clear hO hV a0 a1 a2 hB1 hal
    go_wp2_with fail
    exact nBits_ret rfl rfl ⟨rfl, HB.out.alloc HB.out.size _⟩

end Go.Proofs.YtjnfnngobkjneaaGreatDoor
