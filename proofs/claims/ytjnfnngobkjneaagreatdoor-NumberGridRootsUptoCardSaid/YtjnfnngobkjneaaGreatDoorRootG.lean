/- Roots of numbers, in the program. -/
import Derived.Test.YtjnfnngobkjneaaGreatDoorRootF
namespace Go.Proofs.YtjnfnngobkjneaaGreatDoor
open Go.RowKit Dg Rt

/-- A variable of its own that holds a bool. -/
def Box (w : World) (F : Nat) (b : Bool) : Prop := ∃ t, w.heap[F]? = some (.cells #[.bool b] t (0, 0))
theorem Box.lt {w : World} {F : Nat} {b : Bool} (h : Box w F b) : F < w.heap.size := by
  obtain ⟨t, h0⟩ := h
  exact (Array.getElem?_eq_some_iff.1 h0).1
theorem Box.keep {w w' : World} {F N : Nat} {b : Bool} (h : Box w F b) (hN : F < N) (hb : Below N w w') : Box w' F b := by
  obtain ⟨t, h0⟩ := h
  exact ⟨t, by rw [hb.block _ hN]; exact h0⟩
theorem Box.below {w w' : World} {F : Nat} {b : Bool} (h : Box w F b) (hb : Below w.heap.size w w') : Box w' F b := h.keep h.lt hb
theorem Box.cell {w : World} {F : Nat} {b : Bool} (h : Box w F b) : w.cell? ⟨F, 0, none⟩ = some (.bool b) ∧ w.frozen? ⟨F, 0, none⟩ = false := by
  obtain ⟨t, h0⟩ := h
  simp [World.cell?, World.frozen?, h0]
theorem Box.set {w : World} {F : Nat} {b : Bool} (h : Box w F b) (c : Bool) : Box (w.setCell ⟨F, 0, none⟩ (.bool c)) F c := by
  obtain ⟨t, h0⟩ := h
  exact ⟨t, heap_setCell_same w F 0 _ t _ h0⟩
theorem Box.other {w : World} {F B : Nat} {b : Bool} (h : Box w F b) (hne : F ≠ B) (k : Nat) (u : Value) : Box (w.setCell ⟨B, k, none⟩ u) F b := by
  obtain ⟨t, h0⟩ := h
  exact ⟨t, by rw [Below.heap_setCell _ _ _ _ hne]; exact h0⟩
theorem Rep.setBox {D : Nat} {w : World} {F : Nat} {b : Bool} {v : Value} {n : Nat} (h : Rep D w v n) (hx : Box w F b) (u : Value) : Rep D (w.setCell ⟨F, 0, none⟩ u) v n := by
  obtain ⟨p, m, cap, hv, hk, hl, hs⟩ := h
  refine ⟨p, m, cap, hv, hk, hl, fun h0 => ?_⟩
  obtain ⟨bb, off, hp, hc⟩ := hs h0
  obtain ⟨t, h1⟩ := hx
  have hne : bb ≠ F := by
    rintro rfl
    have hc0 := hc 0 h0
    rw [Nat.add_zero] at hc0
    simp only [World.cell?, h1] at hc0
    rcases off with _ | off
    · simp at hc0
    · simp at hc0
  refine ⟨bb, off, hp, fun j hj => ?_⟩
  rw [World.cell?_of_block (w := w) (a := ⟨bb, off + j, none⟩)]
  · exact hc j hj
  · show (w.setCell ⟨F, 0, none⟩ u).heap[bb]? = _
    rw [Below.heap_setCell _ _ _ _ hne]
theorem FNorm.setBox {w : World} {F : Nat} {b : Bool} {v : Value} {t : Bool × Nat × Nat} (h : FNorm w v t) (hx : Box w F b) (u : Value) : FNorm (w.setCell ⟨F, 0, none⟩ u) v t := by
  obtain ⟨vn, vd, rfl, h1, h2⟩ := h
  exact ⟨vn, vd, rfl, h1.setBox hx u, h2.setBox hx u⟩
/-- Of what was there only the variable F has another value. -/
def UponF (F : Nat) (W w' : World) : Prop := Below F W w' ∧ ∀ i, F < i → i < W.heap.size → w'.heap[i]? = W.heap[i]?
theorem UponF.of_below {F : Nat} {W w' : World} (h : Below W.heap.size W w') (hF : F < W.heap.size) : UponF F W w' := ⟨h.mono (Nat.le_of_lt hF), fun i _ hi => h.block i hi⟩
theorem UponF.below {F : Nat} {W w1 w2 : World} (h : UponF F W w1) (hF : F < W.heap.size) (hb : Below w1.heap.size w1 w2) : UponF F W w2 :=
  ⟨h.1.trans (hb.mono (Nat.le_trans (Nat.le_of_lt hF) h.1.size)), fun i h1 h2 => (hb.block i (Nat.lt_of_lt_of_le h2 h.1.size)).trans (h.2 i h1 h2)⟩
theorem UponF.setF {F : Nat} {W w' : World} (h : UponF F W w') (u : Value) : UponF F W (w'.setCell ⟨F, 0, none⟩ u) :=
  ⟨h.1.setCell (Nat.le_refl _) u, fun i h1 h2 => (Below.heap_setCell _ _ _ _ (by show i ≠ F; omega)).trans (h.2 i h1 h2)⟩
theorem UponF.setB {F B : Nat} {W w' : World} (h : UponF F W w') (hF : F < W.heap.size) (hB : W.heap.size ≤ B) (k : Nat) (u : Value) : UponF F W (w'.setCell ⟨B, k, none⟩ u) :=
  ⟨h.1.setCell (by show F ≤ B; omega) u, fun i h1 h2 => (Below.heap_setCell _ _ _ _ (by show i ≠ B; omega)).trans (h.2 i h1 h2)⟩
theorem UponF.setB3 {F B : Nat} {W w' : World} (h : UponF F W w') (hF : F < W.heap.size) (hB : W.heap.size ≤ B) (x y z : Value) : UponF F W (((w'.setCell ⟨B, 0, none⟩ x).setCell ⟨B, 1, none⟩ y).setCell ⟨B, 2, none⟩ z) :=
  ((h.setB hF hB 0 x).setB hF hB 1 y).setB hF hB 2 z
theorem Var3.upon {w w' : World} {F B : Nat} {x y z : Value} (h : Var3 w B x y z) (hF : F < B) (hu : UponF F w w') : Var3 w' B x y z := by
  obtain ⟨t, h0, h1⟩ := h
  exact ⟨t, by rw [hu.2 _ hF (Array.getElem?_eq_some_iff.1 h0).1]; exact h0, h1⟩

set_option maxHeartbeats 4000000 in
set_option maxRecDepth 100000 in
theorem unary_found (N F : Nat) (b : Bool) (fid : FuncId) (cap : Array Value) (v : Value) (s : Bool) (n d : Nat) (c : Int) (t : Bool × Nat × Nat) (w : World) (h : ARep w v s n d) (ht : TabOk w) (hN : N ≤ F) (hbx : Box w F false)
    (hfn : ∀ args W, (callFunc fid args).run Tryz.prog W = .ok (.enter fid args) W)
    (hop : ∀ W v', Below w.heap.size w W → large n d = false → FNorm W v' (frac s n (den1 d)) → Calls Tryz.prog fid (#[v'] ++ cap) W fun e w' => UponF F W w' ∧ FRes w' e c t ∧ Box w' F b)
    (hbt : large n d = false → c = 0 → t.2.1 < W32 ^ 1000000000 ∧ t.2.2 < W32 ^ 1000000000) :
    Calls Tryz.prog 52 #[v, .func (.func fid) #[] cap] w fun e w' => Below N w w' ∧ FRes w' e (ucode n d c t) (t.1, t.2.1, den0 t.2.2) ∧ Box w' F (if large n d then false else b) := by
  have hA := h
  have HN := hid (And.intro hN (And.intro hbx.lt (Nat.le_trans hN (Nat.le_of_lt hbx.lt))))
  have HBX := hid hbx
  clear hN hbx
  obtain ⟨b', hb'⟩ : ∃ x, x = (if large n d then false else b) := ⟨_, rfl⟩
  rw [← hb']
  have HB' := hid hb'
  clear hb'
  obtain ⟨vn, vd, rfl, ⟨p1, k1, c1, rfl, _⟩, ⟨p2, k2, c2, rfl, _⟩⟩ := h
  have HA := hid (And.intro hA (And.intro ht hbt))
  have HOP := hid hop
  clear hA ht hbt hop
  go_enter Tryz.func52, Tryz.ntmps52
  go_wp2_with fail
  have hVr := Var3.alloc2 w (.cells #[.bool s, .slice p1 k1 c1, .slice p2 k2 c2] 24) (x := .bool false) (y := .slice none 0 0) (z := .slice none 0 0) 24 trivial trivial trivial
  have hB0 := below_alloc2 w (.cells #[.bool s, .slice p1 k1 c1, .slice p2 k2 c2] 24) (.cells #[.bool false, .slice none 0 0, .slice none 0 0] 24)
  generalize hW0 : (w.alloc (.cells #[.bool s, .slice p1 k1 c1, .slice p2 k2 c2] 24)).alloc (.cells #[.bool false, .slice none 0 0, .slice none 0 0] 24) = W0 at *
  clear hW0
  refine (FracOf_open _ s n d W0 (HA.out.1.below hB0) (HA.out.2.1.below hB0)).mono ?_
  rintro e w1 ⟨hB1, hR1⟩
  have hVr1 := hVr.below hB1
  have hB01 := hB0.trans (hB1.mono hB0.size)
  obtain ⟨x0, x1, x2, y0, y1, y2⟩ := id hVr1.cells
  clear x0 x1 x2 y0 y1 y2
  by_cases hL : large n d = true
  · rw [if_pos hL] at hR1
    have HU : Hid (ucode n d c t = 1) := hid (if_pos hL)
    have HIf : Hid (b' = false) := hid (HB'.out.trans (if_pos hL))
    rcases hR1 with ⟨_, rfl⟩ | ⟨h0, _⟩
    · unfold zeroF
      have hV2 := hVr1.below ((Below.refl _ _).alloc (Nat.le_refl _) (.cells #[.bool false, .slice none 0 0, .slice none 0 0] 50))
      have hB2 := hB01.alloc hB01.size (.cells #[.bool false, .slice none 0 0, .slice none 0 0] 50)
      clear hL hVr1 hB01 hVr hB0 hB1
      go_upto_region 2 with fail
      generalize w1.alloc (.cells #[.bool false, .slice none 0 0, .slice none 0 0] 50) = W2 at *
      obtain ⟨x0, x1, x2, y0, y1, y2⟩ := id hV2.cells
      have HV := hid (And.intro hV2 hB2)
      clear hV2 hB2
      go_wp2_with fail
      exact unary_ret rfl rfl (HV.out.1.store trivial trivial trivial) ⟨(below_set3 HV.out.2 (Nat.le_succ _)).mono HN.out.2.2, .inl ⟨by rw [HU.out]; decide, by rw [HU.out]; rfl⟩, by rw [HIf.out]; exact HBX.out.below (below_set3 HV.out.2 (Nat.le_succ _))⟩
    · exact absurd h0 (by decide)
  · rw [if_neg hL] at hR1
    have HU : Hid (ucode n d c t = if c ≠ 0 then c else if big t.2.1 t.2.2 then 1 else 0) := hid (if_neg hL)
    have HIf : Hid (b' = b) := hid (HB'.out.trans (if_neg hL))
    rcases hR1 with ⟨h0, _⟩ | ⟨_, sg, pa, ka, ca, pb, kb, cb, rfl, hF⟩
    · exact absurd rfl h0
    · have hK := (Below.refl _ w1).alloc (Nat.le_refl _) (.cells #[.bool sg, .slice pa ka ca, .slice pb kb cb] 50)
      have hV2 := hVr1.below hK
      have hB2 := hB01.alloc hB01.size (.cells #[.bool sg, .slice pa ka ca, .slice pb kb cb] 50)
      have hF2 := hid (hF.out.below hK)
      have hVa : Var3 (w1.alloc (.cells #[.bool sg, .slice pa ka ca, .slice pb kb cb] 50)) w1.heap.size (.bool sg) (.slice pa ka ca) (.slice pb kb cb) := Var3.alloc w1 50 trivial trivial trivial
      have HLL : Hid (large n d = false) := hid (by simpa using hL)
      clear hL hVr1 hB01 hVr hB0 hB1 hK hF
      go_upto_region 2 with fail
      generalize w1.alloc (.cells #[.bool sg, .slice pa ka ca, .slice pb kb cb] 50) = W2 at *
      generalize w1.heap.size = X at *
      have HV := hid (And.intro hV2 (And.intro hB2 hVa))
      have hop := hid (HOP.out W2 _ hB2 HLL.out hF2.out)
      obtain ⟨x0, x1, x2, _⟩ := id hVa.cells
      clear hV2 hB2 hVa
      go_wp2_with fail
      refine hop.out.mono ?_
      rintro e w3 ⟨hB3, hR3, hX3⟩
      have hV3 := HV.out.1.upon (Nat.lt_succ_of_lt HN.out.2.1) hB3
      have hB03 := (HV.out.2.1.mono HN.out.2.2).trans (hB3.1.mono HN.out.1)
      have HX3 := hid hX3
      have hN3 : N ≤ w3.heap.size := Nat.le_trans HN.out.2.2 hB03.size
      clear hX3
      clear x0 x1 x2 hop HV hF2
      rcases hR3 with ⟨hc, rfl⟩ | ⟨hc, sg', pa', ka', ca', pb', kb', cb', rfl, hF3⟩
      · unfold zeroF
        have hV4 := hV3.below ((Below.refl _ _).alloc (Nat.le_refl _) (.cells #[.bool false, .slice none 0 0, .slice none 0 0] 50))
        have hB4 := hB03.alloc hN3 (.cells #[.bool false, .slice none 0 0, .slice none 0 0] 50)
        have HX4 := hid (HX3.out.below ((Below.refl _ _).alloc (Nat.le_refl _) (.cells #[.bool false, .slice none 0 0, .slice none 0 0] 50)))
        clear hV3 hB03 hB3 hN3
        have HU2 : Hid (ucode n d c t = c ∧ c ≠ 0) := hid ⟨by rw [HU.out, if_pos hc], hc⟩
        go_upto_region 5 with fail
        generalize w3.alloc (.cells #[.bool false, .slice none 0 0, .slice none 0 0] 50) = W4 at *
        obtain ⟨x0, x1, x2, y0, y1, y2⟩ := id hV4.cells
        have HV := hid (And.intro hV4 hB4)
        clear hV4 hB4
        go_wp2_with fail
        exact unary_ret rfl rfl (HV.out.1.store trivial trivial trivial) ⟨below_set3 HV.out.2 (Nat.le_succ_of_le HN.out.2.2), .inl ⟨by rw [HU2.out.1]; exact HU2.out.2, by rw [HU2.out.1]; rfl⟩, by rw [HIf.out]; exact HX4.out.keep HN.out.2.1 (below_set3 (Below.refl w.heap.size _) (Nat.le_succ _))⟩
      · subst hc
        have HU2 : Hid (ucode n d 0 t = if big t.2.1 t.2.2 then 1 else 0) := hid (by rw [HU.out, if_neg (by decide)])
        have hK := (Below.refl _ w3).alloc (Nat.le_refl _) (.cells #[.bool sg', .slice pa' ka' ca', .slice pb' kb' cb'] 50)
        have hV4 := hV3.below hK
        have hB4 := hB03.alloc hN3 (.cells #[.bool sg', .slice pa' ka' ca', .slice pb' kb' cb'] 50)
        have hF4 := hid (hF3.out.below hK)
        have hVa : Var3 (w3.alloc (.cells #[.bool sg', .slice pa' ka' ca', .slice pb' kb' cb'] 50)) w3.heap.size (.bool sg') (.slice pa' ka' ca') (.slice pb' kb' cb') := Var3.alloc w3 50 trivial trivial trivial
        have HX4 := hid (HX3.out.below hK)
        clear hV3 hB03 hB3 hK hF3 hN3
        go_upto_region 5 with fail
        have hN4 : N ≤ (w3.alloc (.cells #[.bool sg', .slice pa' ka' ca', .slice pb' kb' cb'] 50)).heap.size := Nat.le_trans HN.out.2.2 hB4.size
        generalize w3.alloc (.cells #[.bool sg', .slice pa' ka' ca', .slice pb' kb' cb'] 50) = W4 at *
        generalize w3.heap.size = X' at *
        obtain ⟨x0, x1, x2, _⟩ := id hVa.cells
        have HV := hid (And.intro hV4 hB4)
        have hrat := hid (FracRat_open _ t W4 hF4.out (HA.out.2.2 HLL.out (by trivial)).1 (HA.out.2.2 HLL.out (by trivial)).2)
        clear hV4 hB4 hVa hF4
        go_wp2_with fail
        refine hrat.out.mono ?_
        rintro e w5 ⟨hB5, hR5⟩
        have hV5 := HV.out.1.below hB5
        obtain ⟨z0, z1, z2, r0, r1, r2⟩ := id hV5.cells
        have HV5 := hid (And.intro hV5 (HV.out.2.trans (hB5.mono hN4)))
        have HX5 := hid (HX4.out.below hB5)
        clear hV5 hB5 hrat HV x0 x1 x2 hN4
        rcases hR5 with ⟨hc, rfl⟩ | ⟨hc, s6, p6, k6, c6, p7, k7, c7, rfl, hF6⟩
        · obtain ⟨bb, hbb⟩ : ∃ bb, bb = (if big t.2.1 t.2.2 then (1 : Int) else 0) := ⟨_, rfl⟩
          rw [← hbb] at hc ⊢
          rw [← hbb] at HU2
          clear hbb
          unfold zeroF
          go_wp2_with fail
          exact unary_ret rfl rfl (HV5.out.1.store trivial trivial trivial) ⟨below_set3 HV5.out.2 (Nat.le_succ_of_le HN.out.2.2), .inl ⟨by rw [HU2.out]; exact hc, by rw [HU2.out]; rfl⟩, by rw [HIf.out]; exact HX5.out.keep HN.out.2.1 (below_set3 (Below.refl w.heap.size _) (Nat.le_succ _))⟩
        · have HU6 := hid (HU2.out.trans hc)
          clear hc
          go_wp2_with fail
          exact unary_ret rfl rfl (HV5.out.1.store trivial trivial trivial) ⟨below_set3 HV5.out.2 (Nat.le_succ_of_le HN.out.2.2), .inr ⟨HU6.out, _, _, _, _, _, _, _, rfl, hid (hF6.out.store3 HV5.out.1 _ _ _)⟩, by rw [HIf.out]; exact HX5.out.keep HN.out.2.1 (below_set3 (Below.refl w.heap.size _) (Nat.le_succ _))⟩

def isIdx (n : Int) : Bool := decide (2 ≤ n) && decide (n ≤ 8)
theorem rtc_idx (n : Int) : rtc n = if isIdx n then 0 else 2 := by
  unfold rtc isIdx
  by_cases h1 : 2 ≤ n
  · by_cases h2 : n ≤ 8
    · rw [decide_eq_true h1, decide_eq_true h2, if_neg (by omega)]; rfl
    · rw [decide_eq_true h1, decide_eq_false h2, if_pos (by omega)]; rfl
  · rw [decide_eq_false h1, if_pos (by omega)]; rfl
set_option maxHeartbeats 1000000 in
set_option maxRecDepth 100000 in
theorem isIndex_any (n : Int) (w : World) :
    Calls Tryz.prog 54 #[.int .i64 n] w fun e w' => e = .returned (.bool (isIdx n)) ∧ w' = w := by
  unfold isIdx
  by_cases h0 : 2 ≤ n
  · have h1 : decide (2 ≤ n) = true := decide_eq_true h0
    rw [h1, Bool.true_and]
    go_enter Tryz.func54, Tryz.ntmps54
    go_wp2_with fail
    go_ret
    exact ⟨rfl, rfl⟩
  · have h1 : decide (2 ≤ n) = false := decide_eq_false h0
    rw [h1, Bool.false_and]
    go_enter Tryz.func54, Tryz.ntmps54
    go_wp2_with fail
    go_ret
    exact ⟨rfl, rfl⟩

end Go.Proofs.YtjnfnngobkjneaaGreatDoor
