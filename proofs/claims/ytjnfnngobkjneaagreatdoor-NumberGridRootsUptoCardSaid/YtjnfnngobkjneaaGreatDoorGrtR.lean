/- Roots on a grid of numbers, in the program. -/
import Derived.Test.YtjnfnngobkjneaaGreatDoorGrtQ
namespace Go.Proofs.YtjnfnngobkjneaaGreatDoor
open Go.RowKit Dg Rt

/-- The error of the arguments of a root on a grid. -/
def gcode (t : Bool × Nat × Nat) (n p : Int) : Int := if isIdx n = true ∧ inPrec p = true then (if n % 2 = 0 ∧ t.1 = true then 5 else 0) else 2
theorem roundRoot1_ret {W : World} {B : Nat} {x y z ev : Value} {tm : Array Value} {R : Ending → World → Prop} (h2 : tm[5]?.getD undef = .pointer (some ⟨B, 0, none⟩)) (h3 : tm[6]?.getD undef = ev) (hV : Var3 W B x y z)
    (hR : R (.returned (.tuple #[.agg #[x, y, z], ev])) W) : bodyPost Tryz.prog Tryz.f53 R .ret { tmps := tm, defers := [] } W := by
  obtain ⟨c0, c1, c2, _, _, _⟩ := hV.cells
  exact bodyPost_ret (v := .tuple #[.agg #[x, y, z], ev]) (by simp [results, Tryz.results53, go_sem, h2, h3, c0, c1, c2]) rfl hR
theorem enterRR1 (args : Array Value) (w : World) : (callFunc 53 args).run Tryz.prog w = .ok (.enter 53 args) w := call_enter Tryz.func53 (by kernel_rfl) rfl args w
theorem enterFRDown (args : Array Value) (w : World) : (callFunc 22 args).run Tryz.prog w = .ok (.enter 22 args) w := call_enter Tryz.func22 (by kernel_rfl) rfl args w
theorem enterFRUp (args : Array Value) (w : World) : (callFunc 23 args).run Tryz.prog w = .ok (.enter 23 args) w := call_enter Tryz.func23 (by kernel_rfl) rfl args w

set_option maxHeartbeats 4000000 in
set_option maxRecDepth 100000 in
theorem roundRoot1_any (g : FuncId) (Bn Bp Bo : Nat) (v : Value) (ta tr : Bool × Nat × Nat) (n p : Int) (w : World) (hn : PCell w Bn n) (hp : PCell w Bp p) (hc : FCell w Bo g #[]) (hF : FNorm w v ta) (hz : ta.2.1 = 0 → ta.1 = false) (ht : TabOk w)
    (hfn : ∀ args W, (callFunc g args).run Tryz.prog W = .ok (.enter g args) W)
    (hop : gcode ta n p = 0 → ∀ W v', TabOk W → FNorm W v' ta → Calls Tryz.prog g #[v', .int .i64 n, .int .i64 p] W fun e w' => ∃ v'', e = .returned v'' ∧ FNorm w' v'' tr ∧ Below W.heap.size W w') :
    Calls Tryz.prog 53 #[v, .pointer (some ⟨Bn, 0, none⟩), .pointer (some ⟨Bp, 0, none⟩), .pointer (some ⟨Bo, 0, none⟩)] w fun e w' => Below w.heap.size w w' ∧ FRes w' e (gcode ta n p) tr := by
  have hF' := hid hF
  have HSg := hid (fun (W : World) (h : FNorm W v ta) => Sign_any v ta.1 ta.2.1 ta.2.2 W h)
  obtain ⟨vn, vd, rfl, ⟨p1, k1, c1, rfl, _⟩, ⟨p2, k2, c2, rfl, _⟩⟩ := hF
  have HOP := hid (fun (hi : gcode ta n p = 0) W v' (h1 : TabOk W) (h2 : FNorm W v' ta) => fopen (hop hi W v' h1 h2))
  have HX := hid (And.intro hc (And.intro ht (And.intro hp hn)))
  have hsg : decide (sgn ta.1 ta.2.1 < 0) = ta.1 := by
    unfold sgn
    cases h : ta.1
    · by_cases h0 : ta.2.1 = 0 <;> simp [h0]
    · have h0 : ta.2.1 ≠ 0 := fun h0 => by rw [hz h0] at h; exact absurd h (by decide)
      rw [if_neg h0]
      rfl
  have HG : Hid (gcode ta n p = if isIdx n = true ∧ inPrec p = true then (if n % 2 = 0 ∧ ta.1 = true then 5 else 0) else 2) := hid rfl
  clear hc hop ht hp hn hz
  obtain ⟨gc, hgc⟩ : ∃ s, s = gcode ta n p := ⟨_, rfl⟩
  rw [← hgc] at HG HOP ⊢
  clear hgc
  obtain ⟨s, hs⟩ : ∃ s, s = ta.1 := ⟨_, rfl⟩
  rw [← hs] at hF' HG HSg hsg ⊢
  have HS1 := hid hs
  clear hs
  obtain ⟨sg, hsgg⟩ : ∃ x, x = sgn s ta.2.1 := ⟨_, rfl⟩
  rw [← hsgg] at HSg hsg
  clear hsgg
  go_enter Tryz.func53, Tryz.ntmps53
  go_upto_region 1 with fail
  have hK := below_alloc2 w (.cells #[.bool s, .slice p1 k1 c1, .slice p2 k2 c2] 50) (.cells #[.bool false, .slice none 0 0, .slice none 0 0] 50)
  have hVa := (Var3.alloc w (x := .bool s) (y := .slice p1 k1 c1) (z := .slice p2 k2 c2) 50 trivial trivial trivial).below ((Below.refl _ _).alloc (Nat.le_refl _) (.cells #[.bool false, .slice none 0 0, .slice none 0 0] 50))
  have hVr := Var3.alloc2 w (.cells #[.bool s, .slice p1 k1 c1, .slice p2 k2 c2] 50) (x := .bool false) (y := .slice none 0 0) (z := .slice none 0 0) 50 trivial trivial trivial
  generalize (w.alloc (.cells #[.bool s, .slice p1 k1 c1, .slice p2 k2 c2] 50)).alloc (.cells #[.bool false, .slice none 0 0, .slice none 0 0] 50) = W0 at *
  have hnc := (HX.out.2.2.2.below hK).1
  have hpc := (HX.out.2.2.1.below hK).1
  have HIn := hid (isIndex_any n W0)
  have HPr := hid (isPrecision_any p W0)
  have HV := hid (And.intro hVr (And.intro hK hVa))
  clear hVa hVr hK
  cases hi : isIdx n
  · have hgc : gc = 2 := HG.out.trans (if_neg fun h => by rw [hi] at h; exact absurd h.1 (by decide))
    subst hgc
    rw [hi] at HIn
    clear hi HOP HG hpc hsg
    go_wp2_with fail
    refine HIn.out.mono ?_
    rintro e w1 ⟨rfl, rfl⟩
    clear hnc
    obtain ⟨x0, x1, x2, y0, y1, y2⟩ := id HV.out.1.cells
    go_wp2_with fail
    exact roundRoot1_ret rfl rfl (HV.out.1.store trivial trivial trivial) ⟨below_set3 HV.out.2.1 (Nat.le_succ _), .inl ⟨by decide, rfl⟩⟩
  · rw [hi] at HIn
    cases hi2 : inPrec p
    · have hgc : gc = 2 := HG.out.trans (if_neg fun h => by rw [hi2] at h; exact absurd h.2 (by decide))
      subst hgc
      rw [hi2] at HPr
      clear hi hi2 HOP HG hsg
      go_wp2_with fail
      refine HIn.out.mono ?_
      rintro e w1 ⟨rfl, rfl⟩
      go_wp2_with fail
      refine HPr.out.mono ?_
      rintro e w1 ⟨rfl, rfl⟩
      clear hnc hpc
      obtain ⟨x0, x1, x2, y0, y1, y2⟩ := id HV.out.1.cells
      go_wp2_with fail
      exact roundRoot1_ret rfl rfl (HV.out.1.store trivial trivial trivial) ⟨below_set3 HV.out.2.1 (Nat.le_succ _), .inl ⟨by decide, rfl⟩⟩
    · rw [hi2] at HPr
      have hg := HG.out.trans (if_pos ⟨hi, hi2⟩)
      have hn0 : 0 ≤ n := by
        unfold isIdx at hi
        rw [Bool.and_eq_true, decide_eq_true_eq, decide_eq_true_eq] at hi
        omega
      clear hi hi2 HG
      by_cases he : n % 2 = 0
      · have ho1 : (n % 2 == 0) = true := by rw [he]; rfl
        have ho2 : (Int.tmod n 2 == 0) = true := by rw [Int.tmod_eq_emod_of_nonneg hn0]; exact ho1
        have hsc := hid (HSg.out W0 (hF'.out.below HV.out.2.1))
        clear hn0
        cases s
        · have hgc : gc = 0 := hg.trans (if_neg fun h => absurd h.2 (by decide))
          subst hgc
          clear he hg
          obtain ⟨x0, x1, x2, _⟩ := id HV.out.2.2.cells
          go_wp2_with fail
          refine HIn.out.mono ?_
          rintro e w1 ⟨rfl, rfl⟩
          go_wp2_with fail
          refine HPr.out.mono ?_
          rintro e w1 ⟨rfl, rfl⟩
          go_wp2_with fail
          refine hsc.out.mono ?_
          rintro e w2 ⟨rfl, hst⟩
          clear x0 x1 x2 hnc hpc hsc
          replace HV := hid (And.intro (HV.out.1.below hst) (And.intro (HV.out.2.1.trans (hst.mono HV.out.2.1.size)) (HV.out.2.2.below hst)))
          clear hst
          have hnc := (HX.out.2.2.2.below HV.out.2.1).1
          have hpc := (HX.out.2.2.1.below HV.out.2.1).1
          have hfc := (HX.out.1.below HV.out.2.1).1
          have hcl := hid (HOP.out (by trivial) w2 _ (HX.out.2.1.below HV.out.2.1) (hF'.out.below HV.out.2.1))
          obtain ⟨x0, x1, x2, _⟩ := id HV.out.2.2.cells
          go_wp2_with fail
          refine hcl.out.mono ?_
          rintro e w3 ⟨sg', pa, ka, ca, pb, kb, cb, rfl, hF1, hB1⟩
          have HV1 := hid (And.intro (HV.out.1.below hB1) (HV.out.2.1.trans (hB1.mono HV.out.2.1.size)))
          clear x0 x1 x2 hnc hpc hfc hcl hB1
          obtain ⟨x0, x1, x2, y0, y1, y2⟩ := id HV1.out.1.cells
          go_wp2_with fail
          exact roundRoot1_ret rfl rfl (HV1.out.1.store trivial trivial trivial) ⟨below_set3 HV1.out.2 (Nat.le_succ _), .inr ⟨rfl, _, _, _, _, _, _, _, rfl, hid (hF1.out.store3 HV1.out.1 _ _ _)⟩⟩
        · have hgc : gc = 5 := hg.trans (if_pos ⟨he, rfl⟩)
          subst hgc
          clear he hg HOP
          obtain ⟨x0, x1, x2, _⟩ := id HV.out.2.2.cells
          go_wp2_with fail
          refine HIn.out.mono ?_
          rintro e w1 ⟨rfl, rfl⟩
          go_wp2_with fail
          refine HPr.out.mono ?_
          rintro e w1 ⟨rfl, rfl⟩
          go_wp2_with fail
          refine hsc.out.mono ?_
          rintro e w2 ⟨rfl, hst⟩
          clear x0 x1 x2 hnc hpc hsc
          replace HV := hid (And.intro (HV.out.1.below hst) (HV.out.2.1.trans (hst.mono HV.out.2.1.size)))
          clear hst
          obtain ⟨x0, x1, x2, y0, y1, y2⟩ := id HV.out.1.cells
          go_wp2_with fail
          exact roundRoot1_ret rfl rfl (HV.out.1.store trivial trivial trivial) ⟨below_set3 HV.out.2 (Nat.le_succ _), .inl ⟨by decide, rfl⟩⟩
      · have ho1 : (n % 2 == 0) = false := by simpa using he
        have ho2 : (Int.tmod n 2 == 0) = false := by rw [Int.tmod_eq_emod_of_nonneg hn0]; exact ho1
        have hgc : gc = 0 := hg.trans (if_neg fun h => he h.1)
        subst hgc
        clear he hg hn0 hsg
        have hfc := (HX.out.1.below HV.out.2.1).1
        have hcl := hid (HOP.out (by trivial) W0 _ (HX.out.2.1.below HV.out.2.1) (hF'.out.below HV.out.2.1))
        obtain ⟨x0, x1, x2, _⟩ := id HV.out.2.2.cells
        go_wp2_with fail
        refine HIn.out.mono ?_
        rintro e w1 ⟨rfl, rfl⟩
        go_wp2_with fail
        refine HPr.out.mono ?_
        rintro e w1 ⟨rfl, rfl⟩
        go_wp2_with fail
        refine hcl.out.mono ?_
        rintro e w3 ⟨sg', pa, ka, ca, pb, kb, cb, rfl, hF1, hB1⟩
        have HV1 := hid (And.intro (HV.out.1.below hB1) (HV.out.2.1.trans (hB1.mono HV.out.2.1.size)))
        clear x0 x1 x2 hnc hpc hfc hcl hB1
        obtain ⟨x0, x1, x2, y0, y1, y2⟩ := id HV1.out.1.cells
        go_wp2_with fail
        exact roundRoot1_ret rfl rfl (HV1.out.1.store trivial trivial trivial) ⟨below_set3 HV1.out.2 (Nat.le_succ _), .inr ⟨rfl, _, _, _, _, _, _, _, rfl, hid (hF1.out.store3 HV1.out.1 _ _ _)⟩⟩
theorem grdn_bd {t : Bool × Nat × Nat} {n p : Nat} (hn : t.2.1 < W32 ^ 64) (h2 : 2 ≤ n) (h8 : n ≤ 8) (hp : p ≤ 256) : (grdn t n p).2.1 < W32 ^ 1000000000 ∧ (grdn t n p).2.2 < W32 ^ 1000000000 := by
  have hsz : gsz t n p < W32 ^ 130 := Nat.lt_of_le_of_lt (gsz_le t (by omega) p) (Nat.lt_of_le_of_lt (gsc_le t n p) (gsc_W hn h8 hp))
  have hs := succ_W hsz
  refine frac_bd (a := 130 + 1) ?_ (two_Wk (by omega)) (by omega)
  split <;> omega
theorem grup_bd {t : Bool × Nat × Nat} {n p : Nat} (hn : t.2.1 < W32 ^ 64) (h2 : 2 ≤ n) (h8 : n ≤ 8) (hp : p ≤ 256) : (grup t n p).2.1 < W32 ^ 1000000000 ∧ (grup t n p).2.2 < W32 ^ 1000000000 := by
  have hsz : gsz t n p < W32 ^ 130 := Nat.lt_of_le_of_lt (gsz_le t (by omega) p) (Nat.lt_of_le_of_lt (gsc_le t n p) (gsc_W hn h8 hp))
  have hs := succ_W hsz
  refine frac_bd (a := 130 + 1) ?_ (two_Wk (by omega)) (by omega)
  split <;> omega
end Go.Proofs.YtjnfnngobkjneaaGreatDoor
