/- Fractions of the program: Add. -/
import Derived.Test.YtdinpeglclkjhaaDoorFracD
namespace Go.Proofs.YtdinpeglclkjhaaDoor
open Go.RowKit Dg

/-- The fraction with the sign s, the numerator n and the denominator d, in lowest terms. -/
def frac (s : Bool) (n d : Nat) : Bool × Nat × Nat := (s && decide (n ≠ 0), n / Nat.gcd n d, d / Nat.gcd n d)
def FNorm (w : World) (v : Value) (t : Bool × Nat × Nat) : Prop := FRep w v t.1 t.2.1 t.2.2
theorem FNorm.below {w w' : World} {v : Value} {t : Bool × Nat × Nat} (h : FNorm w v t) (hb : Below w.heap.size w w') : FNorm w' v t := FRep.below h hb
/-- The sum. -/
def fadd (a b : Bool × Nat × Nat) : Bool × Nat × Nat :=
  if a.1 = b.1 then frac a.1 (a.2.1 * b.2.2 + b.2.1 * a.2.2) (a.2.2 * b.2.2)
  else if a.2.1 * b.2.2 < b.2.1 * a.2.2 then frac b.1 (b.2.1 * a.2.2 - a.2.1 * b.2.2) (a.2.2 * b.2.2)
  else frac a.1 (a.2.1 * b.2.2 - b.2.1 * a.2.2) (a.2.2 * b.2.2)

theorem lt_mul {x y a b c : Nat} (hx : x < W32 ^ a) (hy : y < W32 ^ b) (h : a + b ≤ c) : x * y < W32 ^ c := by
  refine lt_pow ?_ h
  rw [Nat.pow_add]
  have h1 : 0 < W32 ^ a := Nat.pow_pos W32_pos
  rcases Nat.eq_zero_or_pos y with h0 | h0
  · subst h0; rw [Nat.mul_zero]; exact Nat.mul_pos h1 (Nat.pow_pos W32_pos)
  · exact Nat.lt_of_lt_of_le (Nat.mul_lt_mul_of_pos_right hx h0) (Nat.mul_le_mul_left _ (Nat.le_of_lt hy))
theorem lt_add {x y a c : Nat} (hx : x < W32 ^ a) (hy : y < W32 ^ a) (h : a + 1 ≤ c) : x + y < W32 ^ c := by
  refine lt_pow ?_ h
  rw [Nat.pow_succ]
  have : W32 ^ a * 2 ≤ W32 ^ a * W32 := Nat.mul_le_mul_left _ (by decide)
  omega

theorem lt_20 {x a : Nat} (h : x < W32 ^ a) (hab : a ≤ 20000000) : x < W32 ^ 20000000 := by
  generalize 20000000 = b at *
  exact Nat.lt_of_lt_of_le h (Nat.pow_le_pow_right W32_pos hab)
theorem add_20 {x y a : Nat} (hx : x < W32 ^ a) (hy : y < W32 ^ a) (hab : a + 1 ≤ 20000000) : x + y < W32 ^ 20000000 := by
  generalize 20000000 = b at *
  exact lt_add hx hy hab
theorem sub_20 {x y a : Nat} (hx : x < W32 ^ a) (hab : a ≤ 20000000) : x - y < W32 ^ 20000000 := lt_20 (Nat.lt_of_le_of_lt (Nat.sub_le x y) hx) hab
theorem cmp3_ge0 {x y : Nat} (h : ¬ x < y) : (0 : Int) ≤ cmp3 x y := by unfold cmp3; rw [if_neg h]; split <;> decide
theorem Var3.alloc3 (w : World) (o o' : Obj) {x y z : Value} (t : Nat) (hx : NotInt x) (hy : NotInt y) (hz : NotInt z) : Var3 (((w.alloc o).alloc o').alloc (.cells #[x, y, z] t)) (w.heap.size + 2) x y z := by
  have h := Var3.alloc ((w.alloc o).alloc o') t hx hy hz
  rwa [World.size_alloc, World.size_alloc] at h
theorem below_alloc3 (w : World) (o o' o'' : Obj) : Below w.heap.size w (((w.alloc o).alloc o').alloc o'') := (below_alloc2 w o o').alloc (by rw [World.size_alloc, World.size_alloc]; omega) _
theorem below_pre {N : Nat} {W0 W : World} (h : Below W0.heap.size W0 W) (hN : N ≤ W0.heap.size) : Below N W0 W := h.mono hN
theorem held_any {W0 W w' : World} (h : Below W0.heap.size W0 W) (hB : Below W.heap.size W w') : Below W0.heap.size W0 w' := h.trans (hB.mono h.size)
theorem held4 {N : Nat} {W0 W : World} {a b c d : Prop} (h : a ∧ b ∧ c ∧ d ∧ Hid (Below N W0 W)) : Below N W0 W := h.2.2.2.2.out
theorem held1 {N : Nat} {W0 W : World} {a : Prop} (h : a ∧ Hid (Below N W0 W)) : Below N W0 W := h.2.out

/-- The result laid open: what the walk stores. -/
theorem fopen {f : FuncId} {args : Array Value} {w : World} {t : Bool × Nat × Nat} (h : Calls Tryd.prog f args w fun e w' => ∃ v, e = .returned v ∧ FNorm w' v t ∧ Below w.heap.size w w') :
    Calls Tryd.prog f args w fun e w' => ∃ sg pa ka ca pb kb cb, e = .returned (.agg #[.bool sg, .slice pa ka ca, .slice pb kb cb]) ∧ Hid (FNorm w' (.agg #[.bool sg, .slice pa ka ca, .slice pb kb cb]) t) ∧ Below w.heap.size w w' := by
  refine h.mono ?_
  rintro e w' ⟨v, he, hF, hB⟩
  obtain ⟨vn, vd, hv, h1, h2⟩ := hF
  obtain ⟨pa, ka, ca, rfl, a1⟩ := id h1
  obtain ⟨pb, kb, cb, rfl, a2⟩ := id h2
  exact ⟨t.1, pa, ka, ca, pb, kb, cb, by rw [he, hv], hid ⟨_, _, rfl, h1, h2⟩, hB⟩
theorem FNorm.store3 {w : World} {B : Nat} {a b c : Value} {v : Value} {t : Bool × Nat × Nat} (h : FNorm w v t) (hV : Var3 w B a b c) (x y z : Value) : FNorm (((w.setCell ⟨B, 0, none⟩ x).setCell ⟨B, 1, none⟩ y).setCell ⟨B, 2, none⟩ z) v t := by
  obtain ⟨vn, vd, hv, h1, h2⟩ := h
  exact ⟨vn, vd, hv, h1.store3 hV _ _ _, h2.store3 hV _ _ _⟩

theorem FracAdd_ret {W : World} {B : Nat} {x y z : Value} {tm : Array Value} {R : Ending → World → Prop} (h2 : tm[4]?.getD undef = .pointer (some ⟨B, 0, none⟩)) (hV : Var3 W B x y z) (hR : R (.returned (.agg #[x, y, z])) W) :
    bodyPost Tryd.prog Tryd.f67 R .ret { tmps := tm, defers := [] } W := by
  obtain ⟨c0, c1, c2, _, _, _⟩ := hV.cells
  exact bodyPost_ret (v := .agg #[x, y, z]) (by simp [results, Tryd.results67, go_sem, h2, c0, c1, c2]) rfl hR

set_option maxHeartbeats 4000000 in
set_option maxRecDepth 100000 in
theorem FracAdd_any (va vb : Value) (s1 : Bool) (n1 d1 : Nat) (s2 : Bool) (n2 d2 : Nat) (w : World) (ha : FRep w va s1 n1 d1) (hb : FRep w vb s2 n2 d2)
    (hn1 : n1 < W32 ^ 4000000) (hd1 : d1 < W32 ^ 4000000) (hn2 : n2 < W32 ^ 4000000) (hd2 : d2 < W32 ^ 4000000) (h1 : 0 < d1) (h2 : 0 < d2) (ht : TabOk w) :
    Calls Tryd.prog 67 #[va, vb] w fun e w' => ∃ v', e = .returned v' ∧ FNorm w' v' (fadd (s1, n1, d1) (s2, n2, d2)) ∧ Below w.heap.size w w' := by
  obtain ⟨vn1, vd1, rfl, hrn1, hrd1⟩ := ha
  obtain ⟨vn2, vd2, rfl, hrn2, hrd2⟩ := hb
  have HR := hid (And.intro (And.intro hrn1 hrd1) (And.intro hrn2 hrd2))
  obtain ⟨p1, k1, c1, rfl, _, _, _⟩ := hrn1
  obtain ⟨p2, k2, c2, rfl, _, _, _⟩ := hrd1
  obtain ⟨p3, k3, c3, rfl, _, _, _⟩ := hrn2
  obtain ⟨p4, k4, c4, rfl, _, _, _⟩ := hrd2
  have HB := hid (And.intro (And.intro (lt_big hn1 (by omega)) (lt_big hd1 (by omega))) (And.intro (lt_big hn2 (by omega)) (lt_big hd2 (by omega))))
  have HX := hid (And.intro (lt_mul (c := 9000000) hn1 hd2 (by omega)) (And.intro (lt_mul (c := 9000000) hn2 hd1 (by omega)) (lt_mul (c := 9000000) hd1 hd2 (by omega))))
  have hD0 : 0 < d1 * d2 := Nat.mul_pos h1 h2
  have HT := hid (And.intro ht hD0)
  clear hn1 hd1 hn2 hd2 h1 h2 ht hD0
  obtain ⟨t, htt⟩ : ∃ t, t = fadd (s1, n1, d1) (s2, n2, d2) := ⟨_, rfl⟩
  rw [← htt]
  have HTT := hid htt
  clear htt
  go_enter Tryd.func67, Tryd.ntmps67
  go_wp2_with fail
  have hVa : Var3 (w.alloc (.cells #[.bool s1, .slice p1 k1 c1, .slice p2 k2 c2] 54)) w.heap.size (.bool s1) (.slice p1 k1 c1) (.slice p2 k2 c2) := Var3.alloc w 54 trivial trivial trivial
  have hVb := Var3.alloc2 w (.cells #[.bool s1, .slice p1 k1 c1, .slice p2 k2 c2] 54) (x := .bool s2) (y := .slice p3 k3 c3) (z := .slice p4 k4 c4) 54 trivial trivial trivial
  have hVr := Var3.alloc3 w (.cells #[.bool s1, .slice p1 k1 c1, .slice p2 k2 c2] 54) (.cells #[.bool s2, .slice p3 k3 c3, .slice p4 k4 c4] 54) (x := .bool false) (y := .slice none 0 0) (z := .slice none 0 0) 54 trivial trivial trivial
  have hB0 := below_alloc3 w (.cells #[.bool s1, .slice p1 k1 c1, .slice p2 k2 c2] 54) (.cells #[.bool s2, .slice p3 k3 c3, .slice p4 k4 c4] 54) (.cells #[.bool false, .slice none 0 0, .slice none 0 0] 54)
  have hVa' := (hVa.below ((Below.refl _ _).alloc (Nat.le_refl _) (.cells #[.bool s2, .slice p3 k3 c3, .slice p4 k4 c4] 54))).below ((Below.refl _ _).alloc (Nat.le_refl _) (.cells #[.bool false, .slice none 0 0, .slice none 0 0] 54))
  have hVb' := hVb.below ((Below.refl _ _).alloc (Nat.le_refl _) (.cells #[.bool false, .slice none 0 0, .slice none 0 0] 54))
  clear hVa hVb
  generalize hW0 : ((w.alloc (.cells #[.bool s1, .slice p1 k1 c1, .slice p2 k2 c2] 54)).alloc (.cells #[.bool s2, .slice p3 k3 c3, .slice p4 k4 c4] 54)).alloc (.cells #[.bool false, .slice none 0 0, .slice none 0 0] 54) = W0 at *
  clear hW0
  have HV := hid (And.intro hVa' (And.intro hVb' (And.intro hVr hB0)))
  have HS : Hid (∀ w', Below W0.heap.size W0 w' → (w'.cell? ⟨w.heap.size, 1, none⟩ = some (.slice p1 k1 c1) ∧ w'.cell? ⟨w.heap.size, 2, none⟩ = some (.slice p2 k2 c2) ∧ w'.cell? ⟨w.heap.size + 1, 1, none⟩ = some (.slice p3 k3 c3) ∧ w'.cell? ⟨w.heap.size + 1, 2, none⟩ = some (.slice p4 k4 c4) ∧ Hid (Below W0.heap.size W0 w'))) :=
    hid fun w' hb => ⟨(hVa'.below hb).cells.2.1, (hVa'.below hb).cells.2.2.1, (hVb'.below hb).cells.2.1, (hVb'.below hb).cells.2.2.1, hid hb⟩
  have hMx := hid (fun (W : World) (hW : Below W0.heap.size W0 W) => Mul_any _ _ n1 d2 W ((HR.out.1.1.below hB0).below hW) ((HR.out.2.2.below hB0).below hW) HB.out.1.1 HB.out.2.2)
  have hMy := hid (fun (W : World) (hW : Below W0.heap.size W0 W) => Mul_any _ _ n2 d1 W ((HR.out.2.1.below hB0).below hW) ((HR.out.1.2.below hB0).below hW) HB.out.2.1 HB.out.1.2)
  have hMd := hid (fun (W : World) (hW : Below W0.heap.size W0 W) => Mul_any _ _ d1 d2 W ((HR.out.1.2.below hB0).below hW) ((HR.out.2.2.below hB0).below hW) HB.out.1.2 HB.out.2.2)
  clear hVa' hVb' hVr hB0
  go_region_held3 (fun w' => w'.cell? ⟨w.heap.size, 1, none⟩ = some (.slice p1 k1 c1) ∧ w'.cell? ⟨w.heap.size, 2, none⟩ = some (.slice p2 k2 c2) ∧ w'.cell? ⟨w.heap.size + 1, 1, none⟩ = some (.slice p3 k3 c3) ∧ w'.cell? ⟨w.heap.size + 1, 2, none⟩ = some (.slice p4 k4 c4) ∧ Hid (Below W0.heap.size W0 w'))
    (first | exact HS.out _ (Below.refl _ _).drew | (exact HS.out _ (by assumption)))
    (first
      | (go_at_call_of 104 k1; refine (hMx.out _ (held4 (by assumption))).mono ?_; rintro e wx ⟨vx, rfl, hRx, hBx⟩; have hKx := held_any (held4 (N := W0.heap.size) (W0 := W0) (by assumption)) hBx)
      | (go_at_call_of 104 k3; refine (hMy.out _ (held4 (by assumption))).mono ?_; rintro e wy ⟨vy, rfl, hRy, hBy⟩; have hKy := held_any (held4 (N := W0.heap.size) (W0 := W0) (by assumption)) hBy)
      | (go_at_call_of 104 k2; refine (hMd.out _ (held4 (by assumption))).mono ?_; rintro e wd ⟨vd, rfl, hRd, hBd⟩; have hKd := held_any (held4 (N := W0.heap.size) (W0 := W0) (by assumption)) hBd))
  rename_i hHeld
  clear hHeld
  have HP : Hid ((Rep W32 wd vx (n1 * d2) ∧ Rep W32 wd vy (n2 * d1) ∧ Rep W32 wd vd (d1 * d2)) ∧ (Var3 wd w.heap.size (.bool s1) (.slice p1 k1 c1) (.slice p2 k2 c2) ∧ Var3 wd (w.heap.size + 1) (.bool s2) (.slice p3 k3 c3) (.slice p4 k4 c4) ∧ Var3 wd (w.heap.size + 1 + 1) (.bool false) (.slice none 0 0) (.slice none 0 0)) ∧ Below w.heap.size w wd) :=
    hid ⟨⟨(hRx.below hBy).below hBd, hRy.below hBd, hRd⟩, ⟨HV.out.1.below hKd, HV.out.2.1.below hKd, HV.out.2.2.1.below hKd⟩, HV.out.2.2.2.trans (hKd.mono HV.out.2.2.2.size)⟩
  clear hRx hBx hKx hRy hBy hKy hRd hBd hKd HS hMx hMy hMd HV HR HB
  obtain ⟨b0, b1, b2, _, _, _⟩ := HP.out.2.1.1.cells
  obtain ⟨e0, e1, e2, _, _, _⟩ := HP.out.2.1.2.1.cells
  clear b1 b2 e1 e2
  have hC := hid (Compare_any vx vy (n1 * d2) (n2 * d1) wd HP.out.1.1 HP.out.1.2.1 (lt_big HX.out.1 (by omega)) (lt_big HX.out.2.1 (by omega)))
  have hn2 : w.heap.size + 1 + 1 ≤ wd.heap.size := by obtain ⟨_, h0, _⟩ := HP.out.2.1.2.2; exact Nat.le_of_lt (Array.getElem?_eq_some_iff.1 h0).1
  have HE : s1 = s2 ∨ (s1 ≠ s2 ∧ n1 * d2 < n2 * d1) ∨ (s1 ≠ s2 ∧ ¬ n1 * d2 < n2 * d1) := by
    by_cases a : s1 = s2 <;> by_cases b : n1 * d2 < n2 * d1 <;> simp [a, b]
  rcases HE with he | ⟨he, hl⟩ | ⟨he, hl⟩
  case inl =>
    subst he
    have hOp := hid (fun (W : World) (hW : Below wd.heap.size wd W) => Add_any vx vy (n1 * d2) (n2 * d1) W (HP.out.1.1.below hW) (HP.out.1.2.1.below hW) (lt_big HX.out.1 (by omega)) (lt_big HX.out.2.1 (by omega)))
    have hNew := hid (fun (W : World) (vN : Value) (hN : Rep W32 W vN (n1 * d2 + n2 * d1)) (hW : Below wd.heap.size wd W) => fopen (t := frac s1 (n1 * d2 + n2 * d1) (d1 * d2)) (New_any s1 vN vd (n1 * d2 + n2 * d1) (d1 * d2) W hN (HP.out.1.2.2.below hW) (add_20 HX.out.1 HX.out.2.1 (by omega)) (lt_20 HX.out.2.2 (by omega)) HT.out.2 ((HT.out.1.below HP.out.2.2).below hW)))
    have hF : Hid (t = frac s1 (n1 * d2 + n2 * d1) (d1 * d2)) := hid (by rw [HTT.out]; simp [fadd])
    have HS2 : Hid (∀ w', Below (w.heap.size + 1 + 1) wd w' → (w'.cell? ⟨w.heap.size, 0, none⟩ = some (.bool s1) ∧ w'.cell? ⟨w.heap.size + 1, 0, none⟩ = some (.bool s1) ∧ Hid (Below (w.heap.size + 1 + 1) wd w'))) :=
      hid fun w' hb => ⟨(bcellN hb _ _ (by omega)).trans HP.out.2.1.1.cells.1, (bcellN hb _ _ (by omega)).trans HP.out.2.1.2.1.cells.1, hid hb⟩
    go_wp2_with fail
    go_region_held3 (fun w' => w'.cell? ⟨w.heap.size, 0, none⟩ = some (.bool s1) ∧ w'.cell? ⟨w.heap.size + 1, 0, none⟩ = some (.bool s1) ∧ Hid (Below (w.heap.size + 1 + 1) wd w'))
        (first | exact HS2.out _ (Below.refl _ _).drew | (exact HS2.out _ (by assumption)) | exact HS2.out _ (below_set3 (by assumption) (Nat.le_refl _)))
        (first
          | (go_at_call 106; refine (hOp.out _ (Below.refl _ _).drew).mono ?_; rintro e wo ⟨vo, rfl, hRo, hBo⟩; have hKo := held_any (Below.refl _ _).drew hBo; have hKo2 := below_pre hKo hn2)
          | (go_at_call 105; refine (hNew.out _ _ hRo hKo).mono ?_; rintro e wf ⟨sg, pa, ka, ca, pb, kb, cb, rfl, HF, hBf⟩; have hKf := held_any hKo hBf; have hKf2 := below_pre hKf hn2; obtain ⟨x0, x1, x2, y0, y1, y2⟩ := (HP.out.2.1.2.2.below hKf).cells))
    rename_i hHeld
    clear hHeld
    go_wp2_with fail
    exact FracAdd_ret rfl ((HP.out.2.1.2.2.below hKf).store trivial trivial trivial) ⟨_, rfl, by rw [hF.out]; exact HF.out.store3 (HP.out.2.1.2.2.below hKf) _ _ _, below_set3 (HP.out.2.2.trans (hKf.mono HP.out.2.2.size)) (by show w.heap.size ≤ w.heap.size + 1 + 1; omega)⟩
  case inr.inl =>
    have hne : (s1 == s2) = false := by cases s1 <;> cases s2 <;> first | rfl | exact absurd rfl he
    go_wp2_with fail
    refine hC.out.mono ?_
    rintro e w' ⟨rfl, q, rfl⟩
    rw [show cmp3 (n1 * d2) (n2 * d1) = -1 from if_pos hl]
    have hF : Hid (t = frac s2 (n2 * d1 - n1 * d2) (d1 * d2)) := hid (by rw [HTT.out]; simp only [fadd]; rw [if_neg he, if_pos hl])
    have hOp := hid (fun (W : World) (hW : Below wd.heap.size wd W) => Sub_any vy vx (n2 * d1) (n1 * d2) W (HP.out.1.2.1.below hW) (HP.out.1.1.below hW) (lt_big HX.out.2.1 (by omega)) (Nat.le_of_lt hl))
    have hNew := hid (fun (W : World) (vN : Value) (hN : Rep W32 W vN (n2 * d1 - n1 * d2)) (hW : Below wd.heap.size wd W) => fopen (t := frac s2 (n2 * d1 - n1 * d2) (d1 * d2)) (New_any s2 vN vd (n2 * d1 - n1 * d2) (d1 * d2) W hN (HP.out.1.2.2.below hW) (sub_20 HX.out.2.1 (by omega)) (lt_20 HX.out.2.2 (by omega)) HT.out.2 ((HT.out.1.below HP.out.2.2).below hW)))
    have HS2 : Hid (∀ w', Below (w.heap.size + 1 + 1) wd w' → (w'.cell? ⟨w.heap.size, 0, none⟩ = some (.bool s1) ∧ w'.cell? ⟨w.heap.size + 1, 0, none⟩ = some (.bool s2) ∧ Hid (Below (w.heap.size + 1 + 1) wd w'))) :=
      hid fun w' hb => ⟨(bcellN hb _ _ (by omega)).trans HP.out.2.1.1.cells.1, (bcellN hb _ _ (by omega)).trans HP.out.2.1.2.1.cells.1, hid hb⟩
    go_wp2_with fail
    go_region_held3 (fun w' => w'.cell? ⟨w.heap.size, 0, none⟩ = some (.bool s1) ∧ w'.cell? ⟨w.heap.size + 1, 0, none⟩ = some (.bool s2) ∧ Hid (Below (w.heap.size + 1 + 1) wd w'))
        (first | exact HS2.out _ (below_drewN (Below.refl _ _) q).drew | (exact HS2.out _ (by assumption)) | exact HS2.out _ (below_set3 (by assumption) (Nat.le_refl _)))
        (first
          | (go_at_call 108; refine (hOp.out _ (below_drewN (Below.refl _ _) q).drew).mono ?_; rintro e wo ⟨vo, rfl, hRo, hBo⟩; have hKo := held_any (below_drewN (Below.refl _ _) q).drew hBo; have hKo2 := below_pre hKo hn2)
          | (go_at_call 105; refine (hNew.out _ _ hRo hKo).mono ?_; rintro e wf ⟨sg, pa, ka, ca, pb, kb, cb, rfl, HF, hBf⟩; have hKf := held_any hKo hBf; have hKf2 := below_pre hKf hn2; obtain ⟨x0, x1, x2, y0, y1, y2⟩ := (HP.out.2.1.2.2.below hKf).cells))
    rename_i hHeld
    clear hHeld
    go_wp2_with fail
    exact FracAdd_ret rfl ((HP.out.2.1.2.2.below hKf).store trivial trivial trivial) ⟨_, rfl, by rw [hF.out]; exact HF.out.store3 (HP.out.2.1.2.2.below hKf) _ _ _, below_set3 (HP.out.2.2.trans (hKf.mono HP.out.2.2.size)) (by show w.heap.size ≤ w.heap.size + 1 + 1; omega)⟩
  case inr.inr =>
    have hne : (s1 == s2) = false := by cases s1 <;> cases s2 <;> first | rfl | exact absurd rfl he
    go_wp2_with fail
    refine hC.out.mono ?_
    rintro e w' ⟨rfl, q, rfl⟩
    have hcm := cmp3_ge0 hl
    obtain ⟨cm, hcm'⟩ : ∃ cm, cm = cmp3 (n1 * d2) (n2 * d1) := ⟨_, rfl⟩
    rw [← hcm'] at hcm
    rw [← hcm']
    clear hcm'
    have hF : Hid (t = frac s1 (n1 * d2 - n2 * d1) (d1 * d2)) := hid (by rw [HTT.out]; simp only [fadd]; rw [if_neg he, if_neg hl])
    have hOp := hid (fun (W : World) (hW : Below wd.heap.size wd W) => Sub_any vx vy (n1 * d2) (n2 * d1) W (HP.out.1.1.below hW) (HP.out.1.2.1.below hW) (lt_big HX.out.1 (by omega)) (Nat.le_of_not_lt hl))
    have hNew := hid (fun (W : World) (vN : Value) (hN : Rep W32 W vN (n1 * d2 - n2 * d1)) (hW : Below wd.heap.size wd W) => fopen (t := frac s1 (n1 * d2 - n2 * d1) (d1 * d2)) (New_any s1 vN vd (n1 * d2 - n2 * d1) (d1 * d2) W hN (HP.out.1.2.2.below hW) (sub_20 HX.out.1 (by omega)) (lt_20 HX.out.2.2 (by omega)) HT.out.2 ((HT.out.1.below HP.out.2.2).below hW)))
    have HS2 : Hid (∀ w', Below (w.heap.size + 1 + 1) wd w' → (w'.cell? ⟨w.heap.size, 0, none⟩ = some (.bool s1) ∧ w'.cell? ⟨w.heap.size + 1, 0, none⟩ = some (.bool s2) ∧ Hid (Below (w.heap.size + 1 + 1) wd w'))) :=
      hid fun w' hb => ⟨(bcellN hb _ _ (by omega)).trans HP.out.2.1.1.cells.1, (bcellN hb _ _ (by omega)).trans HP.out.2.1.2.1.cells.1, hid hb⟩
    go_wp2_with fail
    go_region_held3 (fun w' => w'.cell? ⟨w.heap.size, 0, none⟩ = some (.bool s1) ∧ w'.cell? ⟨w.heap.size + 1, 0, none⟩ = some (.bool s2) ∧ Hid (Below (w.heap.size + 1 + 1) wd w'))
        (first | exact HS2.out _ (below_drewN (Below.refl _ _) q).drew | (exact HS2.out _ (by assumption)) | exact HS2.out _ (below_set3 (by assumption) (Nat.le_refl _)))
        (first
          | (go_at_call 108; refine (hOp.out _ (below_drewN (Below.refl _ _) q).drew).mono ?_; rintro e wo ⟨vo, rfl, hRo, hBo⟩; have hKo := held_any (below_drewN (Below.refl _ _) q).drew hBo; have hKo2 := below_pre hKo hn2)
          | (go_at_call 105; refine (hNew.out _ _ hRo hKo).mono ?_; rintro e wf ⟨sg, pa, ka, ca, pb, kb, cb, rfl, HF, hBf⟩; have hKf := held_any hKo hBf; have hKf2 := below_pre hKf hn2; obtain ⟨x0, x1, x2, y0, y1, y2⟩ := (HP.out.2.1.2.2.below hKf).cells))
    rename_i hHeld
    clear hHeld
    go_wp2_with fail
    exact FracAdd_ret rfl ((HP.out.2.1.2.2.below hKf).store trivial trivial trivial) ⟨_, rfl, by rw [hF.out]; exact HF.out.store3 (HP.out.2.1.2.2.below hKf) _ _ _, below_set3 (HP.out.2.2.trans (hKf.mono HP.out.2.2.size)) (by show w.heap.size ≤ w.heap.size + 1 + 1; omega)⟩
end Go.Proofs.YtdinpeglclkjhaaDoor
