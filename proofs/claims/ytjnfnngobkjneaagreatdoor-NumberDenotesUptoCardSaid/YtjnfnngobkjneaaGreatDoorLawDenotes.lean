/- The law NumberDenotes. -/
import Derived.Test.YtjnfnngobkjneaaGreatDoorDenA
namespace Go.Proofs.YtjnfnngobkjneaaGreatDoor
open Go.RowKit Dg Dc

theorem Raw.rawN {w : World} {p : Option Addr} {n c x : Nat} (h : Raw w (.slice p n c) x) : RawN w (.slice p n c) x n := by
  obtain ⟨_, _, _, he, h1, _, h2, h3⟩ := h
  cases he
  exact ⟨_, _, rfl, h1, h2, h3⟩
theorem w_le {n : Nat} {x : Nat} (h : x < W32 ^ n) (hn : n ≤ 64) : x < W32 ^ 64 := Nat.lt_of_lt_of_le h (Nat.pow_le_pow_right W32_pos hn)

set_option maxHeartbeats 16000000 in
set_option maxRecDepth 100000 in
theorem NumberDenotes_any (vx vy : Value) (x y : Bool × Nat × Nat) (q : Int) (w : World) (hx : NRep w vx x) (hy : NRep w vy y) (hq0 : 0 ≤ q) (hq1 : q < 65536) (ht : TabOk w) (h10 : Tab10 w) :
    Calls Tryz.prog 5 #[vx, vy, .int .u16 q] w fun e w' => e = .returned (.bool true) ∧ Below w.heap.size w w' := by
  obtain ⟨k, rfl⟩ : ∃ k : Nat, q = k := ⟨q.toNat, by omega⟩
  have hk : k < 65536 := by omega
  clear hq0 hq1
  obtain ⟨_, _, rfl, hx1, hx2⟩ := hx
  obtain ⟨pa, ka, ca, rfl, ga1, ga2, ga3, ga4⟩ := id hx1
  obtain ⟨pb, kb, cb, rfl, gb1, gb2, gb3, gb4⟩ := id hx2
  have HY := hid hy
  obtain ⟨_, _, rfl, ⟨pc, kc, cc, rfl, _⟩, ⟨pd, kd, cd, rfl, _⟩⟩ := hy
  obtain ⟨sx, xn, xd⟩ := x
  have HX := hid (show NRep w (.agg #[.bool sx, .slice pa ka ca, .slice pb kb cb]) (sx, xn, xd) from ⟨_, _, rfl, hx1, hx2⟩)
  have HR := hid (And.intro hx1.rawN hx2.rawN)
  have HL := hid (And.intro ga3 gb3)
  clear hx1 hx2 ga1 ga2 ga3 ga4 gb1 gb2 gb3 gb4
  obtain ⟨sy, hsy⟩ : ∃ s, s = y.1 := ⟨_, rfl⟩
  have hal := below_alloc2 w (.cells #[.bool sx, .slice pa ka ca, .slice pb kb cb] 24) (.cells #[.bool sy, .slice pc kc cc, .slice pd kd cd] 24)
  have hV := (Var3.alloc w (x := .bool sx) (y := .slice pa ka ca) (z := .slice pb kb cb) 24 trivial trivial trivial).below ((Below.refl _ _).alloc (Nat.le_refl _) (.cells #[.bool sy, .slice pc kc cc, .slice pd kd cd] 24))
  have hV2 := Var3.alloc2 w (.cells #[.bool sx, .slice pa ka ca, .slice pb kb cb] 24) (x := .bool sy) (y := .slice pc kc cc) (z := .slice pd kd cd) 24 trivial trivial trivial
  rw [← hsy] at HY ⊢
  clear hsy
  have HXr := hid (HX.out.below hal)
  have HYr := hid (HY.out.below hal)
  have HRr := hid (And.intro (HR.out.1.below hal) (HR.out.2.below hal))
  have HT := hid (And.intro (ht.below hal) (h10.below hal))
  have HB := hid hal
  have HVx := hid hV
  have HVy := hid hV2
  clear HX HY HR ht h10 hal hV hV2
  go_enter Tryz.func5, Tryz.ntmps5
  go_upto_region 1 with fail
  generalize (w.alloc (.cells #[.bool sx, .slice pa ka ca, .slice pb kb cb] 24)).alloc (.cells #[.bool sy, .slice pc kc cc, .slice pd kd cd] 24) = W0 at *
  obtain ⟨a0, a1, a2, _⟩ := HVx.out.cells
  by_cases hka : 64 < ka
  · have g1 : decide ((ka : Int) > 64) = true := by simp; omega
    clear hka
    have HAw := hid (awake_any _ HT.out.1)
    go_wp2_with fail
    refine HAw.out.mono ?_
    rintro e w1 ⟨rfl, hst⟩
    have HZ := hid (HB.out.trans (hst.mono HB.out.size))
    clear hst
    go_wp2_with fail
    go_ret
    exact ⟨rfl, HZ.out⟩
  have g1 : decide ((ka : Int) > 64) = false := by simp; omega
  by_cases hkb : 64 < kb
  · have g2 : decide ((kb : Int) > 64) = true := by simp; omega
    clear hka hkb
    have HAw := hid (awake_any _ HT.out.1)
    go_wp2_with fail
    refine HAw.out.mono ?_
    rintro e w2 ⟨rfl, hst⟩
    have HZ := hid (HB.out.trans (hst.mono HB.out.size))
    clear hst
    go_wp2_with fail
    go_ret
    exact ⟨rfl, HZ.out⟩
  have g2 : decide ((kb : Int) > 64) = false := by simp; omega
  have hka64 : ka ≤ 64 := by omega
  have hkb64 : kb ≤ 64 := by omega
  have hLg := sc_large sx xn xd (k + 1) (by omega) (by omega) (w_le HL.out.1 hka64) (w_le HL.out.2 hkb64)
  clear hka hkb
  by_cases hkb0 : 0 < kb
  · have hz := hid (Zero_any pb kb cb xd W0 hkb64 HRr.out.2)
    have g3 : decide ((kb : Int) > 0) = true := by simp; omega
    by_cases hd0 : xd = 0
    · have hz2 := hz.out
      rw [decide_eq_true hd0] at hz2
      have HZz := hid hz2
      clear hz hz2 hd0 hLg
      go_wp2_with fail
      refine HZz.out.mono ?_
      clear HZz
      rintro e w40 ⟨rfl, hst⟩
      replace HT := hid (And.intro (HT.out.1.below hst) (HT.out.2.below hst))
      replace HB := hid (HB.out.trans (hst.mono HB.out.size))
      clear hst a0 a1 a2
      have HAw := hid (awake_any _ HT.out.1)
      go_wp2_with fail
      refine HAw.out.mono ?_
      rintro e w3 ⟨rfl, hst⟩
      have HZ := hid (HB.out.trans (hst.mono HB.out.size))
      clear hst
      go_wp2_with fail
      go_ret
      exact ⟨rfl, HZ.out⟩
    · have hz2 := hz.out
      rw [decide_eq_false hd0] at hz2
      have HZz := hid hz2
      have hd1 : den1 xd = xd := den1_pos' (Nat.pos_of_ne_zero hd0)
      clear hz hz2 hd0
      go_wp2_with fail
      refine HZz.out.mono ?_
      clear HZz
      rintro e w40 ⟨rfl, hst⟩
      clear a0 a1 a2
      replace HT := hid (And.intro (HT.out.1.below hst) (HT.out.2.below hst))
      replace HB := hid (HB.out.trans (hst.mono HB.out.size))
      replace HVx := hid (HVx.out.below hst)
      replace HVy := hid (HVy.out.below hst)
      replace HXr := hid (HXr.out.below hst)
      replace HYr := hid (HYr.out.below hst)
      have HSC := hid (scaled_any sx pa ka ca pb kb cb xn xd k w40 hk (HRr.out.1.below hst) (HRr.out.2.below hst) hka64 hkb64 hkb0)
      rw [← hd1] at HSC
      have HD1 := hid hd1
      clear hst hd1
      obtain ⟨a0, a1, a2, _⟩ := HVx.out.cells
      obtain ⟨g1, g2, r1, r2, ct, cc', S, fc, bt, bc, hk1, hk2, hk3, hk4⟩ := den_ok (a := (sx, xn, xd)) (a' := (sx, xn * (k + 1), den1 xd * (k + 1))) (b := y) hLg (sc_fr sx xn xd (k + 1) (by omega))
      have K := hid hk1
      have K' := hid hk2
      have HI := hid (And.intro hk3 hk4)
      clear hk1 hk2 hk3 hk4 hLg HL HRr
      go_wp2_with fail
      refine (HSC.out).mono ?_
      clear HSC
      rintro e w4 ⟨z, rfl, hz, hB⟩
      clear a0 a1 a2
      have HZr := hid hz
      obtain ⟨_, _, rfl, ⟨pz, kz, cz, rfl, _⟩, ⟨qz, lz, dz, rfl, _⟩⟩ := hz
      go_upto_region 4 with fail
      have hal := (Below.refl w4.heap.size w4).alloc (Nat.le_refl _) (.cells #[.bool sx, .slice pz kz cz, .slice qz lz dz] 24)
      have hV := Var3.alloc w4 (x := .bool sx) (y := .slice pz kz cz) (z := .slice qz lz dz) 24 trivial trivial trivial
      have hst := held_any hB hal
      replace HZr := hid (HZr.out.below hal)
      clear hB hal
      generalize w4.alloc (.cells #[.bool sx, .slice pz kz cz, .slice qz lz dz] 24) = Wz at *
      generalize w4.heap.size = Bz at *
      replace HT := hid (And.intro (HT.out.1.below hst) (HT.out.2.below hst))
      replace HB := hid (HB.out.trans (hst.mono HB.out.size))
      replace HVx := hid (HVx.out.below hst)
      replace HXr := hid (HXr.out.below hst)
      replace HVy := hid (HVy.out.below hst)
      replace HYr := hid (HYr.out.below hst)
      have HVz := hid hV
      clear hst hV
      obtain ⟨x0, x1, x2, _⟩ := HVx.out.cells
      obtain ⟨y0, y1, y2, _⟩ := HVy.out.cells
      go_wp2_with fail
      refine Calls.mono (K.out.add _ _ _ HXr.out HYr.out HT.out.1) ?_
      rintro e w5 ⟨hB, sa, pa, ka, ca, qa, la, da, rfl, hF⟩
      clear x0 x1 x2 y0 y1 y2
      go_upto_region 5 with fail
      have hal := (Below.refl w5.heap.size w5).alloc (Nat.le_refl _) (.cells #[.bool sa, .slice pa ka ca, .slice qa la da] 24)
      have hV := Var3.alloc w5 (x := .bool sa) (y := .slice pa ka ca) (z := .slice qa la da) 24 trivial trivial trivial
      have hst := held_any hB hal
      have HFa := hid (hF.out.below hal)
      clear hB hal hF
      generalize w5.alloc (.cells #[.bool sa, .slice pa ka ca, .slice qa la da] 24) = Wa at *
      generalize w5.heap.size = Ba at *
      replace HT := hid (And.intro (HT.out.1.below hst) (HT.out.2.below hst))
      replace HB := hid (HB.out.trans (hst.mono HB.out.size))
      replace HVx := hid (HVx.out.below hst)
      replace HXr := hid (HXr.out.below hst)
      replace HVy := hid (HVy.out.below hst)
      replace HYr := hid (HYr.out.below hst)
      replace HVz := hid (HVz.out.below hst)
      replace HZr := hid (HZr.out.below hst)
      have HVa := hid hV
      clear hst hV
      obtain ⟨z0, z1, z2, _⟩ := HVz.out.cells
      obtain ⟨y0, y1, y2, _⟩ := HVy.out.cells
      go_wp2_with fail
      refine Calls.mono (K'.out.add _ _ _ HZr.out HYr.out HT.out.1) ?_
      rintro e w6 ⟨hB, sb, pb, kb, cb, qb, lb, db, rfl, hF⟩
      clear z0 z1 z2 y0 y1 y2
      go_upto_region 6 with fail
      have hal := (Below.refl w6.heap.size w6).alloc (Nat.le_refl _) (.cells #[.bool sb, .slice pb kb cb, .slice qb lb db] 24)
      have hV := Var3.alloc w6 (x := .bool sb) (y := .slice pb kb cb) (z := .slice qb lb db) 24 trivial trivial trivial
      have hst := held_any hB hal
      have HFb := hid (hF.out.below hal)
      clear hB hal hF
      generalize w6.alloc (.cells #[.bool sb, .slice pb kb cb, .slice qb lb db] 24) = Wb at *
      generalize w6.heap.size = Bb at *
      replace HT := hid (And.intro (HT.out.1.below hst) (HT.out.2.below hst))
      replace HB := hid (HB.out.trans (hst.mono HB.out.size))
      replace HVx := hid (HVx.out.below hst)
      replace HXr := hid (HXr.out.below hst)
      replace HVy := hid (HVy.out.below hst)
      replace HYr := hid (HYr.out.below hst)
      replace HVz := hid (HVz.out.below hst)
      replace HZr := hid (HZr.out.below hst)
      replace HVa := hid (HVa.out.below hst)
      replace HFa := hid (HFa.out.below hst)
      have HVb := hid hV
      clear hst hV
      obtain ⟨x0, x1, x2, _⟩ := HVx.out.cells
      obtain ⟨y0, y1, y2, _⟩ := HVy.out.cells
      go_wp2_with fail
      refine Calls.mono (K.out.mul _ _ _ HXr.out HYr.out HT.out.1) ?_
      rintro e w7 ⟨hB, sc, pc, kc, cc, qc, lc, dc, rfl, hF⟩
      clear x0 x1 x2 y0 y1 y2
      go_upto_region 7 with fail
      have hal := (Below.refl w7.heap.size w7).alloc (Nat.le_refl _) (.cells #[.bool sc, .slice pc kc cc, .slice qc lc dc] 24)
      have hV := Var3.alloc w7 (x := .bool sc) (y := .slice pc kc cc) (z := .slice qc lc dc) 24 trivial trivial trivial
      have hst := held_any hB hal
      have HFc := hid (hF.out.below hal)
      clear hB hal hF
      generalize w7.alloc (.cells #[.bool sc, .slice pc kc cc, .slice qc lc dc] 24) = Wc at *
      generalize w7.heap.size = Bc at *
      replace HT := hid (And.intro (HT.out.1.below hst) (HT.out.2.below hst))
      replace HB := hid (HB.out.trans (hst.mono HB.out.size))
      replace HVx := hid (HVx.out.below hst)
      replace HXr := hid (HXr.out.below hst)
      replace HVy := hid (HVy.out.below hst)
      replace HYr := hid (HYr.out.below hst)
      replace HVz := hid (HVz.out.below hst)
      replace HZr := hid (HZr.out.below hst)
      replace HVa := hid (HVa.out.below hst)
      replace HFa := hid (HFa.out.below hst)
      replace HVb := hid (HVb.out.below hst)
      replace HFb := hid (HFb.out.below hst)
      have HVc := hid hV
      clear hst hV
      obtain ⟨z0, z1, z2, _⟩ := HVz.out.cells
      obtain ⟨y0, y1, y2, _⟩ := HVy.out.cells
      go_wp2_with fail
      refine Calls.mono (K'.out.mul _ _ _ HZr.out HYr.out HT.out.1) ?_
      rintro e w8 ⟨hB, sd, pd, kd, cd, qd, ld, dd, rfl, hF⟩
      clear z0 z1 z2 y0 y1 y2
      go_upto_region 8 with fail
      have hal := (Below.refl w8.heap.size w8).alloc (Nat.le_refl _) (.cells #[.bool sd, .slice pd kd cd, .slice qd ld dd] 24)
      have hV := Var3.alloc w8 (x := .bool sd) (y := .slice pd kd cd) (z := .slice qd ld dd) 24 trivial trivial trivial
      have hst := held_any hB hal
      have HFd := hid (hF.out.below hal)
      clear hB hal hF
      generalize w8.alloc (.cells #[.bool sd, .slice pd kd cd, .slice qd ld dd] 24) = Wd at *
      generalize w8.heap.size = Bd at *
      replace HT := hid (And.intro (HT.out.1.below hst) (HT.out.2.below hst))
      replace HB := hid (HB.out.trans (hst.mono HB.out.size))
      replace HVx := hid (HVx.out.below hst)
      replace HXr := hid (HXr.out.below hst)
      replace HVy := hid (HVy.out.below hst)
      replace HYr := hid (HYr.out.below hst)
      replace HVz := hid (HVz.out.below hst)
      replace HZr := hid (HZr.out.below hst)
      replace HVa := hid (HVa.out.below hst)
      replace HFa := hid (HFa.out.below hst)
      replace HVb := hid (HVb.out.below hst)
      replace HFb := hid (HFb.out.below hst)
      replace HVc := hid (HVc.out.below hst)
      replace HFc := hid (HFc.out.below hst)
      have HVd := hid hV
      clear hst hV
      obtain ⟨x0, x1, x2, _⟩ := HVx.out.cells
      obtain ⟨y0, y1, y2, _⟩ := HVy.out.cells
      go_wp2_with fail
      refine Calls.mono (K.out.cmp _ _ _ HXr.out HYr.out HT.out.1) ?_
      rintro e w9 ⟨rfl, hst⟩
      clear x0 x1 x2 y0 y1 y2
      replace HT := hid (And.intro (HT.out.1.below hst) (HT.out.2.below hst))
      replace HB := hid (HB.out.trans (hst.mono HB.out.size))
      replace HVx := hid (HVx.out.below hst)
      replace HXr := hid (HXr.out.below hst)
      replace HVy := hid (HVy.out.below hst)
      replace HYr := hid (HYr.out.below hst)
      replace HVz := hid (HVz.out.below hst)
      replace HZr := hid (HZr.out.below hst)
      replace HVa := hid (HVa.out.below hst)
      replace HFa := hid (HFa.out.below hst)
      replace HVb := hid (HVb.out.below hst)
      replace HFb := hid (HFb.out.below hst)
      replace HVc := hid (HVc.out.below hst)
      replace HFc := hid (HFc.out.below hst)
      replace HVd := hid (HVd.out.below hst)
      replace HFd := hid (HFd.out.below hst)
      clear hst
      obtain ⟨z0, z1, z2, _⟩ := HVz.out.cells
      obtain ⟨y0, y1, y2, _⟩ := HVy.out.cells
      go_wp2_with fail
      refine Calls.mono (K'.out.cmp _ _ _ HZr.out HYr.out HT.out.1) ?_
      rintro e w10 ⟨rfl, hst⟩
      clear z0 z1 z2 y0 y1 y2
      clear HVy HYr
      replace HT := hid (And.intro (HT.out.1.below hst) (HT.out.2.below hst))
      replace HB := hid (HB.out.trans (hst.mono HB.out.size))
      replace HVx := hid (HVx.out.below hst)
      replace HXr := hid (HXr.out.below hst)
      replace HVz := hid (HVz.out.below hst)
      replace HZr := hid (HZr.out.below hst)
      replace HVa := hid (HVa.out.below hst)
      replace HFa := hid (HFa.out.below hst)
      replace HVb := hid (HVb.out.below hst)
      replace HFb := hid (HFb.out.below hst)
      replace HVc := hid (HVc.out.below hst)
      replace HFc := hid (HFc.out.below hst)
      replace HVd := hid (HVd.out.below hst)
      replace HFd := hid (HFd.out.below hst)
      clear hst
      obtain ⟨x0, x1, x2, _⟩ := HVx.out.cells
      go_wp2_with fail
      refine Calls.mono (K.out.fmt _ _ HXr.out HT.out.1 HT.out.2) ?_
      rintro e w11 ⟨rfl, hst⟩
      clear x0 x1 x2
      replace HT := hid (And.intro (HT.out.1.below hst) (HT.out.2.below hst))
      replace HB := hid (HB.out.trans (hst.mono HB.out.size))
      replace HVx := hid (HVx.out.below hst)
      replace HXr := hid (HXr.out.below hst)
      replace HVz := hid (HVz.out.below hst)
      replace HZr := hid (HZr.out.below hst)
      replace HVa := hid (HVa.out.below hst)
      replace HFa := hid (HFa.out.below hst)
      replace HVb := hid (HVb.out.below hst)
      replace HFb := hid (HFb.out.below hst)
      replace HVc := hid (HVc.out.below hst)
      replace HFc := hid (HFc.out.below hst)
      replace HVd := hid (HVd.out.below hst)
      replace HFd := hid (HFd.out.below hst)
      clear hst
      obtain ⟨z0, z1, z2, _⟩ := HVz.out.cells
      go_wp2_with fail
      refine Calls.mono (K'.out.fmt _ _ HZr.out HT.out.1 HT.out.2) ?_
      rintro e w12 ⟨rfl, hst⟩
      clear z0 z1 z2
      replace HT := hid (And.intro (HT.out.1.below hst) (HT.out.2.below hst))
      replace HB := hid (HB.out.trans (hst.mono HB.out.size))
      replace HVx := hid (HVx.out.below hst)
      replace HXr := hid (HXr.out.below hst)
      replace HVz := hid (HVz.out.below hst)
      replace HZr := hid (HZr.out.below hst)
      replace HVa := hid (HVa.out.below hst)
      replace HFa := hid (HFa.out.below hst)
      replace HVb := hid (HVb.out.below hst)
      replace HFb := hid (HFb.out.below hst)
      replace HVc := hid (HVc.out.below hst)
      replace HFc := hid (HFc.out.below hst)
      replace HVd := hid (HVd.out.below hst)
      replace HFd := hid (HFd.out.below hst)
      clear hst
      obtain ⟨x0, x1, x2, _⟩ := HVx.out.cells
      go_wp2_with fail
      refine Calls.mono (K.out.bit _ _ HXr.out HT.out.1) ?_
      rintro e w13 ⟨rfl, hst⟩
      clear x0 x1 x2
      clear HVx HXr
      replace HT := hid (And.intro (HT.out.1.below hst) (HT.out.2.below hst))
      replace HB := hid (HB.out.trans (hst.mono HB.out.size))
      replace HVz := hid (HVz.out.below hst)
      replace HZr := hid (HZr.out.below hst)
      replace HVa := hid (HVa.out.below hst)
      replace HFa := hid (HFa.out.below hst)
      replace HVb := hid (HVb.out.below hst)
      replace HFb := hid (HFb.out.below hst)
      replace HVc := hid (HVc.out.below hst)
      replace HFc := hid (HFc.out.below hst)
      replace HVd := hid (HVd.out.below hst)
      replace HFd := hid (HFd.out.below hst)
      clear hst
      obtain ⟨z0, z1, z2, _⟩ := HVz.out.cells
      go_wp2_with fail
      refine Calls.mono (K'.out.bit _ _ HZr.out HT.out.1) ?_
      rintro e w14 ⟨rfl, hst⟩
      clear z0 z1 z2
      clear HVz HZr
      replace HT := hid (And.intro (HT.out.1.below hst) (HT.out.2.below hst))
      replace HB := hid (HB.out.trans (hst.mono HB.out.size))
      replace HVa := hid (HVa.out.below hst)
      replace HFa := hid (HFa.out.below hst)
      replace HVb := hid (HVb.out.below hst)
      replace HFb := hid (HFb.out.below hst)
      replace HVc := hid (HVc.out.below hst)
      replace HFc := hid (HFc.out.below hst)
      replace HVd := hid (HVd.out.below hst)
      replace HFd := hid (HFd.out.below hst)
      clear hst
      obtain ⟨a0, a1, a2, _⟩ := HVa.out.cells
      obtain ⟨b0, b1, b2, _⟩ := HVb.out.cells
      go_wp2_with fail
      refine Calls.mono (HI.out.1 _ _ _ HFa.out HFb.out) ?_
      rintro e w15 ⟨rfl, hst⟩
      clear a0 a1 a2 b0 b1 b2
      clear HVa HFa HVb HFb
      replace HT := hid (And.intro (HT.out.1.below hst) (HT.out.2.below hst))
      replace HB := hid (HB.out.trans (hst.mono HB.out.size))
      replace HVc := hid (HVc.out.below hst)
      replace HFc := hid (HFc.out.below hst)
      replace HVd := hid (HVd.out.below hst)
      replace HFd := hid (HFd.out.below hst)
      clear hst
      obtain ⟨c0, c1, c2, _⟩ := HVc.out.cells
      obtain ⟨d0, d1, d2, _⟩ := HVd.out.cells
      go_wp2_with fail
      refine Calls.mono (HI.out.2 _ _ _ HFc.out HFd.out) ?_
      rintro e w16 ⟨rfl, hst⟩
      clear c0 c1 c2 d0 d1 d2
      clear HVc HFc HVd HFd
      replace HT := hid (And.intro (HT.out.1.below hst) (HT.out.2.below hst))
      replace HB := hid (HB.out.trans (hst.mono HB.out.size))
      clear hst
      have HAw := hid (awake_any _ HT.out.1)
      go_wp2_with fail
      refine HAw.out.mono ?_
      rintro e w17 ⟨rfl, hst⟩
      have HZ := hid (HB.out.trans (hst.mono HB.out.size))
      clear hst
      go_wp2_with fail
      go_ret
      exact ⟨rfl, HZ.out⟩
  · obtain rfl : kb = 0 := by omega
    have hxd : xd = 0 := by
      have h1 : xd < W32 ^ 0 := HL.out.2
      rw [Nat.pow_zero] at h1
      omega
    have hd1 : den1 xd = 1 := by rw [hxd]; rfl
    have HSC := hid ((scaled_zero sx pa ka ca pb cb xn k W0 hk HRr.out.1 hka64).mono (R' := fun e w' => ∃ z, e = .returned z ∧ NRep w' z (sx, xn * (k + 1), den1 xd * (k + 1)) ∧ Below W0.heap.size W0 w') fun _ _ h => by rw [hd1]; exact h)
    have HD1 := hid hd1
    clear hd1 hxd
    obtain ⟨g1, g2, r1, r2, ct, cc', S, fc, bt, bc, hk1, hk2, hk3, hk4⟩ := den_ok (a := (sx, xn, xd)) (a' := (sx, xn * (k + 1), den1 xd * (k + 1))) (b := y) hLg (sc_fr sx xn xd (k + 1) (by omega))
    have K := hid hk1
    have K' := hid hk2
    have HI := hid (And.intro hk3 hk4)
    clear hk1 hk2 hk3 hk4 hLg HL HRr
    go_wp2_with fail
    refine (HSC.out).mono ?_
    clear HSC
    rintro e w18 ⟨z, rfl, hz, hB⟩
    clear a0 a1 a2
    have HZr := hid hz
    obtain ⟨_, _, rfl, ⟨pz, kz, cz, rfl, _⟩, ⟨qz, lz, dz, rfl, _⟩⟩ := hz
    go_upto_region 4 with fail
    have hal := (Below.refl w18.heap.size w18).alloc (Nat.le_refl _) (.cells #[.bool sx, .slice pz kz cz, .slice qz lz dz] 24)
    have hV := Var3.alloc w18 (x := .bool sx) (y := .slice pz kz cz) (z := .slice qz lz dz) 24 trivial trivial trivial
    have hst := held_any hB hal
    replace HZr := hid (HZr.out.below hal)
    clear hB hal
    generalize w18.alloc (.cells #[.bool sx, .slice pz kz cz, .slice qz lz dz] 24) = Wz at *
    generalize w18.heap.size = Bz at *
    replace HT := hid (And.intro (HT.out.1.below hst) (HT.out.2.below hst))
    replace HB := hid (HB.out.trans (hst.mono HB.out.size))
    replace HVx := hid (HVx.out.below hst)
    replace HXr := hid (HXr.out.below hst)
    replace HVy := hid (HVy.out.below hst)
    replace HYr := hid (HYr.out.below hst)
    have HVz := hid hV
    clear hst hV
    obtain ⟨x0, x1, x2, _⟩ := HVx.out.cells
    obtain ⟨y0, y1, y2, _⟩ := HVy.out.cells
    go_wp2_with fail
    refine Calls.mono (K.out.add _ _ _ HXr.out HYr.out HT.out.1) ?_
    rintro e w19 ⟨hB, sa, pa, ka, ca, qa, la, da, rfl, hF⟩
    clear x0 x1 x2 y0 y1 y2
    go_upto_region 5 with fail
    have hal := (Below.refl w19.heap.size w19).alloc (Nat.le_refl _) (.cells #[.bool sa, .slice pa ka ca, .slice qa la da] 24)
    have hV := Var3.alloc w19 (x := .bool sa) (y := .slice pa ka ca) (z := .slice qa la da) 24 trivial trivial trivial
    have hst := held_any hB hal
    have HFa := hid (hF.out.below hal)
    clear hB hal hF
    generalize w19.alloc (.cells #[.bool sa, .slice pa ka ca, .slice qa la da] 24) = Wa at *
    generalize w19.heap.size = Ba at *
    replace HT := hid (And.intro (HT.out.1.below hst) (HT.out.2.below hst))
    replace HB := hid (HB.out.trans (hst.mono HB.out.size))
    replace HVx := hid (HVx.out.below hst)
    replace HXr := hid (HXr.out.below hst)
    replace HVy := hid (HVy.out.below hst)
    replace HYr := hid (HYr.out.below hst)
    replace HVz := hid (HVz.out.below hst)
    replace HZr := hid (HZr.out.below hst)
    have HVa := hid hV
    clear hst hV
    obtain ⟨z0, z1, z2, _⟩ := HVz.out.cells
    obtain ⟨y0, y1, y2, _⟩ := HVy.out.cells
    go_wp2_with fail
    refine Calls.mono (K'.out.add _ _ _ HZr.out HYr.out HT.out.1) ?_
    rintro e w20 ⟨hB, sb, pb, kb, cb, qb, lb, db, rfl, hF⟩
    clear z0 z1 z2 y0 y1 y2
    go_upto_region 6 with fail
    have hal := (Below.refl w20.heap.size w20).alloc (Nat.le_refl _) (.cells #[.bool sb, .slice pb kb cb, .slice qb lb db] 24)
    have hV := Var3.alloc w20 (x := .bool sb) (y := .slice pb kb cb) (z := .slice qb lb db) 24 trivial trivial trivial
    have hst := held_any hB hal
    have HFb := hid (hF.out.below hal)
    clear hB hal hF
    generalize w20.alloc (.cells #[.bool sb, .slice pb kb cb, .slice qb lb db] 24) = Wb at *
    generalize w20.heap.size = Bb at *
    replace HT := hid (And.intro (HT.out.1.below hst) (HT.out.2.below hst))
    replace HB := hid (HB.out.trans (hst.mono HB.out.size))
    replace HVx := hid (HVx.out.below hst)
    replace HXr := hid (HXr.out.below hst)
    replace HVy := hid (HVy.out.below hst)
    replace HYr := hid (HYr.out.below hst)
    replace HVz := hid (HVz.out.below hst)
    replace HZr := hid (HZr.out.below hst)
    replace HVa := hid (HVa.out.below hst)
    replace HFa := hid (HFa.out.below hst)
    have HVb := hid hV
    clear hst hV
    obtain ⟨x0, x1, x2, _⟩ := HVx.out.cells
    obtain ⟨y0, y1, y2, _⟩ := HVy.out.cells
    go_wp2_with fail
    refine Calls.mono (K.out.mul _ _ _ HXr.out HYr.out HT.out.1) ?_
    rintro e w21 ⟨hB, sc, pc, kc, cc, qc, lc, dc, rfl, hF⟩
    clear x0 x1 x2 y0 y1 y2
    go_upto_region 7 with fail
    have hal := (Below.refl w21.heap.size w21).alloc (Nat.le_refl _) (.cells #[.bool sc, .slice pc kc cc, .slice qc lc dc] 24)
    have hV := Var3.alloc w21 (x := .bool sc) (y := .slice pc kc cc) (z := .slice qc lc dc) 24 trivial trivial trivial
    have hst := held_any hB hal
    have HFc := hid (hF.out.below hal)
    clear hB hal hF
    generalize w21.alloc (.cells #[.bool sc, .slice pc kc cc, .slice qc lc dc] 24) = Wc at *
    generalize w21.heap.size = Bc at *
    replace HT := hid (And.intro (HT.out.1.below hst) (HT.out.2.below hst))
    replace HB := hid (HB.out.trans (hst.mono HB.out.size))
    replace HVx := hid (HVx.out.below hst)
    replace HXr := hid (HXr.out.below hst)
    replace HVy := hid (HVy.out.below hst)
    replace HYr := hid (HYr.out.below hst)
    replace HVz := hid (HVz.out.below hst)
    replace HZr := hid (HZr.out.below hst)
    replace HVa := hid (HVa.out.below hst)
    replace HFa := hid (HFa.out.below hst)
    replace HVb := hid (HVb.out.below hst)
    replace HFb := hid (HFb.out.below hst)
    have HVc := hid hV
    clear hst hV
    obtain ⟨z0, z1, z2, _⟩ := HVz.out.cells
    obtain ⟨y0, y1, y2, _⟩ := HVy.out.cells
    go_wp2_with fail
    refine Calls.mono (K'.out.mul _ _ _ HZr.out HYr.out HT.out.1) ?_
    rintro e w22 ⟨hB, sd, pd, kd, cd, qd, ld, dd, rfl, hF⟩
    clear z0 z1 z2 y0 y1 y2
    go_upto_region 8 with fail
    have hal := (Below.refl w22.heap.size w22).alloc (Nat.le_refl _) (.cells #[.bool sd, .slice pd kd cd, .slice qd ld dd] 24)
    have hV := Var3.alloc w22 (x := .bool sd) (y := .slice pd kd cd) (z := .slice qd ld dd) 24 trivial trivial trivial
    have hst := held_any hB hal
    have HFd := hid (hF.out.below hal)
    clear hB hal hF
    generalize w22.alloc (.cells #[.bool sd, .slice pd kd cd, .slice qd ld dd] 24) = Wd at *
    generalize w22.heap.size = Bd at *
    replace HT := hid (And.intro (HT.out.1.below hst) (HT.out.2.below hst))
    replace HB := hid (HB.out.trans (hst.mono HB.out.size))
    replace HVx := hid (HVx.out.below hst)
    replace HXr := hid (HXr.out.below hst)
    replace HVy := hid (HVy.out.below hst)
    replace HYr := hid (HYr.out.below hst)
    replace HVz := hid (HVz.out.below hst)
    replace HZr := hid (HZr.out.below hst)
    replace HVa := hid (HVa.out.below hst)
    replace HFa := hid (HFa.out.below hst)
    replace HVb := hid (HVb.out.below hst)
    replace HFb := hid (HFb.out.below hst)
    replace HVc := hid (HVc.out.below hst)
    replace HFc := hid (HFc.out.below hst)
    have HVd := hid hV
    clear hst hV
    obtain ⟨x0, x1, x2, _⟩ := HVx.out.cells
    obtain ⟨y0, y1, y2, _⟩ := HVy.out.cells
    go_wp2_with fail
    refine Calls.mono (K.out.cmp _ _ _ HXr.out HYr.out HT.out.1) ?_
    rintro e w23 ⟨rfl, hst⟩
    clear x0 x1 x2 y0 y1 y2
    replace HT := hid (And.intro (HT.out.1.below hst) (HT.out.2.below hst))
    replace HB := hid (HB.out.trans (hst.mono HB.out.size))
    replace HVx := hid (HVx.out.below hst)
    replace HXr := hid (HXr.out.below hst)
    replace HVy := hid (HVy.out.below hst)
    replace HYr := hid (HYr.out.below hst)
    replace HVz := hid (HVz.out.below hst)
    replace HZr := hid (HZr.out.below hst)
    replace HVa := hid (HVa.out.below hst)
    replace HFa := hid (HFa.out.below hst)
    replace HVb := hid (HVb.out.below hst)
    replace HFb := hid (HFb.out.below hst)
    replace HVc := hid (HVc.out.below hst)
    replace HFc := hid (HFc.out.below hst)
    replace HVd := hid (HVd.out.below hst)
    replace HFd := hid (HFd.out.below hst)
    clear hst
    obtain ⟨z0, z1, z2, _⟩ := HVz.out.cells
    obtain ⟨y0, y1, y2, _⟩ := HVy.out.cells
    go_wp2_with fail
    refine Calls.mono (K'.out.cmp _ _ _ HZr.out HYr.out HT.out.1) ?_
    rintro e w24 ⟨rfl, hst⟩
    clear z0 z1 z2 y0 y1 y2
    clear HVy HYr
    replace HT := hid (And.intro (HT.out.1.below hst) (HT.out.2.below hst))
    replace HB := hid (HB.out.trans (hst.mono HB.out.size))
    replace HVx := hid (HVx.out.below hst)
    replace HXr := hid (HXr.out.below hst)
    replace HVz := hid (HVz.out.below hst)
    replace HZr := hid (HZr.out.below hst)
    replace HVa := hid (HVa.out.below hst)
    replace HFa := hid (HFa.out.below hst)
    replace HVb := hid (HVb.out.below hst)
    replace HFb := hid (HFb.out.below hst)
    replace HVc := hid (HVc.out.below hst)
    replace HFc := hid (HFc.out.below hst)
    replace HVd := hid (HVd.out.below hst)
    replace HFd := hid (HFd.out.below hst)
    clear hst
    obtain ⟨x0, x1, x2, _⟩ := HVx.out.cells
    go_wp2_with fail
    refine Calls.mono (K.out.fmt _ _ HXr.out HT.out.1 HT.out.2) ?_
    rintro e w25 ⟨rfl, hst⟩
    clear x0 x1 x2
    replace HT := hid (And.intro (HT.out.1.below hst) (HT.out.2.below hst))
    replace HB := hid (HB.out.trans (hst.mono HB.out.size))
    replace HVx := hid (HVx.out.below hst)
    replace HXr := hid (HXr.out.below hst)
    replace HVz := hid (HVz.out.below hst)
    replace HZr := hid (HZr.out.below hst)
    replace HVa := hid (HVa.out.below hst)
    replace HFa := hid (HFa.out.below hst)
    replace HVb := hid (HVb.out.below hst)
    replace HFb := hid (HFb.out.below hst)
    replace HVc := hid (HVc.out.below hst)
    replace HFc := hid (HFc.out.below hst)
    replace HVd := hid (HVd.out.below hst)
    replace HFd := hid (HFd.out.below hst)
    clear hst
    obtain ⟨z0, z1, z2, _⟩ := HVz.out.cells
    go_wp2_with fail
    refine Calls.mono (K'.out.fmt _ _ HZr.out HT.out.1 HT.out.2) ?_
    rintro e w26 ⟨rfl, hst⟩
    clear z0 z1 z2
    replace HT := hid (And.intro (HT.out.1.below hst) (HT.out.2.below hst))
    replace HB := hid (HB.out.trans (hst.mono HB.out.size))
    replace HVx := hid (HVx.out.below hst)
    replace HXr := hid (HXr.out.below hst)
    replace HVz := hid (HVz.out.below hst)
    replace HZr := hid (HZr.out.below hst)
    replace HVa := hid (HVa.out.below hst)
    replace HFa := hid (HFa.out.below hst)
    replace HVb := hid (HVb.out.below hst)
    replace HFb := hid (HFb.out.below hst)
    replace HVc := hid (HVc.out.below hst)
    replace HFc := hid (HFc.out.below hst)
    replace HVd := hid (HVd.out.below hst)
    replace HFd := hid (HFd.out.below hst)
    clear hst
    obtain ⟨x0, x1, x2, _⟩ := HVx.out.cells
    go_wp2_with fail
    refine Calls.mono (K.out.bit _ _ HXr.out HT.out.1) ?_
    rintro e w27 ⟨rfl, hst⟩
    clear x0 x1 x2
    clear HVx HXr
    replace HT := hid (And.intro (HT.out.1.below hst) (HT.out.2.below hst))
    replace HB := hid (HB.out.trans (hst.mono HB.out.size))
    replace HVz := hid (HVz.out.below hst)
    replace HZr := hid (HZr.out.below hst)
    replace HVa := hid (HVa.out.below hst)
    replace HFa := hid (HFa.out.below hst)
    replace HVb := hid (HVb.out.below hst)
    replace HFb := hid (HFb.out.below hst)
    replace HVc := hid (HVc.out.below hst)
    replace HFc := hid (HFc.out.below hst)
    replace HVd := hid (HVd.out.below hst)
    replace HFd := hid (HFd.out.below hst)
    clear hst
    obtain ⟨z0, z1, z2, _⟩ := HVz.out.cells
    go_wp2_with fail
    refine Calls.mono (K'.out.bit _ _ HZr.out HT.out.1) ?_
    rintro e w28 ⟨rfl, hst⟩
    clear z0 z1 z2
    clear HVz HZr
    replace HT := hid (And.intro (HT.out.1.below hst) (HT.out.2.below hst))
    replace HB := hid (HB.out.trans (hst.mono HB.out.size))
    replace HVa := hid (HVa.out.below hst)
    replace HFa := hid (HFa.out.below hst)
    replace HVb := hid (HVb.out.below hst)
    replace HFb := hid (HFb.out.below hst)
    replace HVc := hid (HVc.out.below hst)
    replace HFc := hid (HFc.out.below hst)
    replace HVd := hid (HVd.out.below hst)
    replace HFd := hid (HFd.out.below hst)
    clear hst
    obtain ⟨a0, a1, a2, _⟩ := HVa.out.cells
    obtain ⟨b0, b1, b2, _⟩ := HVb.out.cells
    go_wp2_with fail
    refine Calls.mono (HI.out.1 _ _ _ HFa.out HFb.out) ?_
    rintro e w29 ⟨rfl, hst⟩
    clear a0 a1 a2 b0 b1 b2
    clear HVa HFa HVb HFb
    replace HT := hid (And.intro (HT.out.1.below hst) (HT.out.2.below hst))
    replace HB := hid (HB.out.trans (hst.mono HB.out.size))
    replace HVc := hid (HVc.out.below hst)
    replace HFc := hid (HFc.out.below hst)
    replace HVd := hid (HVd.out.below hst)
    replace HFd := hid (HFd.out.below hst)
    clear hst
    obtain ⟨c0, c1, c2, _⟩ := HVc.out.cells
    obtain ⟨d0, d1, d2, _⟩ := HVd.out.cells
    go_wp2_with fail
    refine Calls.mono (HI.out.2 _ _ _ HFc.out HFd.out) ?_
    rintro e w30 ⟨rfl, hst⟩
    clear c0 c1 c2 d0 d1 d2
    clear HVc HFc HVd HFd
    replace HT := hid (And.intro (HT.out.1.below hst) (HT.out.2.below hst))
    replace HB := hid (HB.out.trans (hst.mono HB.out.size))
    clear hst
    have HAw := hid (awake_any _ HT.out.1)
    go_wp2_with fail
    refine HAw.out.mono ?_
    rintro e w31 ⟨rfl, hst⟩
    have HZ := hid (HB.out.trans (hst.mono HB.out.size))
    clear hst
    go_wp2_with fail
    go_ret
    exact ⟨rfl, HZ.out⟩
end Go.Proofs.YtjnfnngobkjneaaGreatDoor
