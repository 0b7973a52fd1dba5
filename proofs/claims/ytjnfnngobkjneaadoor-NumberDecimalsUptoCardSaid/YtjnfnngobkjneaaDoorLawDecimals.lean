/- The law NumberDecimals. -/
import Derived.Test.YtjnfnngobkjneaaDoorDecC
namespace Go.Proofs.YtjnfnngobkjneaaDoor
open Go.RowKit Dg Dc

set_option maxHeartbeats 16000000 in
set_option maxRecDepth 100000 in
theorem NumberDecimals_any (S1 S2 : ByteArray) (w : World) (hs1 : S1.size ≤ 9223372036854775807) (hs2 : S2.size ≤ 9223372036854775807) (ht : TabOk w) :
    Calls Tryd.prog 5 #[.string S1, .string S2] w fun e w' => e = .returned (.bool true) ∧ Below w.heap.size w w' := by
  have HD1 := hid (fun W => decimal_any S1 W hs1)
  have HD2 := hid (fun W => decimal_any S2 W hs2)
  have HT0 := hid ht
  have HB := hid (Below.refl w.heap.size w)
  have HAw := hid (awake_any w ht)
  clear ht hs1 hs2
  cases h1 : decb S1.data.toList
  · rw [h1] at HD1
    clear h1 HD2
    go_enter Tryd.func5, Tryd.ntmps5
    go_wp2_with fail
    refine (HD1.out _).mono ?_
    rintro e w1 ⟨rfl, rfl⟩
    go_wp2_with fail
    refine HAw.out.mono ?_
    rintro e w4 ⟨rfl, hst⟩
    have HZ := hid hst
    clear hst
    go_wp2_with fail
    go_ret
    exact ⟨rfl, HZ.out⟩
  cases h2 : decb S2.data.toList
  · rw [h1] at HD1
    rw [h2] at HD2
    clear h1 h2
    go_enter Tryd.func5, Tryd.ntmps5
    go_wp2_with fail
    refine (HD1.out _).mono ?_
    rintro e w1 ⟨rfl, rfl⟩
    go_wp2_with fail
    refine (HD2.out _).mono ?_
    rintro e w1 ⟨rfl, rfl⟩
    go_wp2_with fail
    refine HAw.out.mono ?_
    rintro e w4 ⟨rfl, hst⟩
    have HZ := hid hst
    clear hst
    go_wp2_with fail
    go_ret
    exact ⟨rfl, HZ.out⟩
  obtain ⟨r0, rx, ry, rt, rf, rs, rp, rm, rn, rq, cq, hok⟩ := dec_ok S1 S2 h1 h2
  have K := hid hok
  have hz1 : S1.size ≤ 30 := by have := (decb_yes h1).2.2; simpa using this
  have hz2 : S2.size ≤ 30 := by have := (decb_yes h2).2.2; simpa using this
  rw [h1] at HD1
  rw [h2] at HD2
  clear h1 h2 hok HAw
  go_enter Tryd.func5, Tryd.ntmps5
  go_wp2_with fail
  refine (HD1.out _).mono ?_
  rintro e w1 ⟨rfl, rfl⟩
  go_wp2_with fail
  refine (HD2.out _).mono ?_
  rintro e w1 ⟨rfl, rfl⟩
  clear HD1 HD2
  go_wp2_with fail
  refine Calls.mono (K.out.x _ HT0.out) ?_
  rintro e w1 ⟨hB, sx, px, kx, cx, qx, lx, dx, rfl, hF⟩
  go_upto_region 4 with fail
  have hal := (Below.refl w1.heap.size w1).alloc (Nat.le_refl _) (.cells #[.bool sx, .slice px kx cx, .slice qx lx dx] 24)
  have hV := Var3.alloc w1 (x := .bool sx) (y := .slice px kx cx) (z := .slice qx lx dx) 24 trivial trivial trivial
  have hst := held_any hB hal
  have HFx := hid (hF.out.below hal)
  clear hB hal hF
  generalize w1.alloc (.cells #[.bool sx, .slice px kx cx, .slice qx lx dx] 24) = Wx at *
  generalize w1.heap.size = Bx at *
  replace HT0 := hid (HT0.out.below hst)
  replace HB := hid (HB.out.trans (hst.mono HB.out.size))
  have HVx := hid hV
  clear hst hV
  go_wp2_with fail
  refine Calls.mono (K.out.y _ HT0.out) ?_
  rintro e w2 ⟨hB, sy, py, ky, cy, qy, ly, dy, rfl, hF⟩
  go_upto_region 5 with fail
  have hal := (Below.refl w2.heap.size w2).alloc (Nat.le_refl _) (.cells #[.bool sy, .slice py ky cy, .slice qy ly dy] 24)
  have hV := Var3.alloc w2 (x := .bool sy) (y := .slice py ky cy) (z := .slice qy ly dy) 24 trivial trivial trivial
  have hst := held_any hB hal
  have HFy := hid (hF.out.below hal)
  clear hB hal hF
  generalize w2.alloc (.cells #[.bool sy, .slice py ky cy, .slice qy ly dy] 24) = Wy at *
  generalize w2.heap.size = By at *
  replace HT0 := hid (HT0.out.below hst)
  replace HB := hid (HB.out.trans (hst.mono HB.out.size))
  replace HVx := hid (HVx.out.below hst)
  replace HFx := hid (HFx.out.below hst)
  have HVy := hid hV
  clear hst hV
  go_wp2_with fail
  refine Calls.mono (K.out.i _) ?_
  rintro e w0 ⟨vi, rfl, hI, hst⟩
  replace HT0 := hid (HT0.out.below hst)
  replace HB := hid (HB.out.trans (hst.mono HB.out.size))
  replace HVx := hid (HVx.out.below hst)
  replace HFx := hid (HFx.out.below hst)
  replace HVy := hid (HVy.out.below hst)
  replace HFy := hid (HFy.out.below hst)
  have HI := hid hI
  clear hst hI
  go_wp2_with fail
  refine Calls.mono (K.out.t _ _ HI.out HT0.out) ?_
  rintro e w3 ⟨hB, st, pt, kt, ct, qt, lt, dt, rfl, hF⟩
  go_upto_region 6 with fail
  have hal := (Below.refl w3.heap.size w3).alloc (Nat.le_refl _) (.cells #[.bool st, .slice pt kt ct, .slice qt lt dt] 24)
  have hV := Var3.alloc w3 (x := .bool st) (y := .slice pt kt ct) (z := .slice qt lt dt) 24 trivial trivial trivial
  have hst := held_any hB hal
  have HFt := hid (hF.out.below hal)
  clear hB hal hF
  generalize w3.alloc (.cells #[.bool st, .slice pt kt ct, .slice qt lt dt] 24) = Wt at *
  generalize w3.heap.size = Bt at *
  replace HT0 := hid (HT0.out.below hst)
  replace HB := hid (HB.out.trans (hst.mono HB.out.size))
  replace HVx := hid (HVx.out.below hst)
  replace HFx := hid (HFx.out.below hst)
  replace HVy := hid (HVy.out.below hst)
  replace HFy := hid (HFy.out.below hst)
  have HVt := hid hV
  clear hst hV
  clear HI
  obtain ⟨ay0, ay1, ay2, _⟩ := HVy.out.cells
  obtain ⟨at0, at1, at2, _⟩ := HVt.out.cells
  go_wp2_with fail
  refine Calls.mono (K.out.f _ _ _ HFy.out HFt.out HT0.out) ?_
  rintro e w4 ⟨hB, sf, pf, kf, cf, qf, lf, df, rfl, hF⟩
  clear ay0 ay1 ay2 at0 at1 at2
  go_upto_region 7 with fail
  have hal := (Below.refl w4.heap.size w4).alloc (Nat.le_refl _) (.cells #[.bool sf, .slice pf kf cf, .slice qf lf df] 24)
  have hV := Var3.alloc w4 (x := .bool sf) (y := .slice pf kf cf) (z := .slice qf lf df) 24 trivial trivial trivial
  have hst := held_any hB hal
  have HFf := hid (hF.out.below hal)
  clear hB hal hF
  generalize w4.alloc (.cells #[.bool sf, .slice pf kf cf, .slice qf lf df] 24) = Wf at *
  generalize w4.heap.size = Bf at *
  clear HVt HFt
  replace HT0 := hid (HT0.out.below hst)
  replace HB := hid (HB.out.trans (hst.mono HB.out.size))
  replace HVx := hid (HVx.out.below hst)
  replace HFx := hid (HFx.out.below hst)
  replace HVy := hid (HVy.out.below hst)
  replace HFy := hid (HFy.out.below hst)
  have HVf := hid hV
  clear hst hV
  obtain ⟨ax0, ax1, ax2, _⟩ := HVx.out.cells
  obtain ⟨af0, af1, af2, _⟩ := HVf.out.cells
  go_wp2_with fail
  refine Calls.mono (K.out.s _ _ _ HFx.out HFf.out HT0.out) ?_
  rintro e w5 ⟨hB, ss, ps, ks, cs, qs, ls, ds, rfl, hF⟩
  clear ax0 ax1 ax2 af0 af1 af2
  go_upto_region 8 with fail
  have hal := (Below.refl w5.heap.size w5).alloc (Nat.le_refl _) (.cells #[.bool ss, .slice ps ks cs, .slice qs ls ds] 24)
  have hV := Var3.alloc w5 (x := .bool ss) (y := .slice ps ks cs) (z := .slice qs ls ds) 24 trivial trivial trivial
  have hst := held_any hB hal
  have HFs := hid (hF.out.below hal)
  clear hB hal hF
  generalize w5.alloc (.cells #[.bool ss, .slice ps ks cs, .slice qs ls ds] 24) = Ws at *
  generalize w5.heap.size = Bs at *
  clear HVf HFf
  replace HT0 := hid (HT0.out.below hst)
  replace HB := hid (HB.out.trans (hst.mono HB.out.size))
  replace HVx := hid (HVx.out.below hst)
  replace HFx := hid (HFx.out.below hst)
  replace HVy := hid (HVy.out.below hst)
  replace HFy := hid (HFy.out.below hst)
  have HVs := hid hV
  clear hst hV
  go_wp2_with fail
  refine Calls.mono (K.out.p _ HT0.out) ?_
  rintro e w6 ⟨hB, sp, pp, kp, cp, qp, lp, dp, rfl, hF⟩
  go_upto_region 9 with fail
  have hal := (Below.refl w6.heap.size w6).alloc (Nat.le_refl _) (.cells #[.bool sp, .slice pp kp cp, .slice qp lp dp] 24)
  have hV := Var3.alloc w6 (x := .bool sp) (y := .slice pp kp cp) (z := .slice qp lp dp) 24 trivial trivial trivial
  have hst := held_any hB hal
  have HFp := hid (hF.out.below hal)
  clear hB hal hF
  generalize w6.alloc (.cells #[.bool sp, .slice pp kp cp, .slice qp lp dp] 24) = Wp at *
  generalize w6.heap.size = Bp at *
  replace HT0 := hid (HT0.out.below hst)
  replace HB := hid (HB.out.trans (hst.mono HB.out.size))
  replace HVx := hid (HVx.out.below hst)
  replace HFx := hid (HFx.out.below hst)
  replace HVy := hid (HVy.out.below hst)
  replace HFy := hid (HFy.out.below hst)
  replace HVs := hid (HVs.out.below hst)
  replace HFs := hid (HFs.out.below hst)
  have HVp := hid hV
  clear hst hV
  go_wp2_with fail
  refine Calls.mono (K.out.m _ HT0.out) ?_
  rintro e w7 ⟨hB, sm, pm, km, cm, qm, lm, dm, rfl, hF⟩
  go_upto_region 10 with fail
  have hal := (Below.refl w7.heap.size w7).alloc (Nat.le_refl _) (.cells #[.bool sm, .slice pm km cm, .slice qm lm dm] 24)
  have hV := Var3.alloc w7 (x := .bool sm) (y := .slice pm km cm) (z := .slice qm lm dm) 24 trivial trivial trivial
  have hst := held_any hB hal
  have HFm := hid (hF.out.below hal)
  clear hB hal hF
  generalize w7.alloc (.cells #[.bool sm, .slice pm km cm, .slice qm lm dm] 24) = Wm at *
  generalize w7.heap.size = Bm at *
  replace HT0 := hid (HT0.out.below hst)
  replace HB := hid (HB.out.trans (hst.mono HB.out.size))
  replace HVx := hid (HVx.out.below hst)
  replace HFx := hid (HFx.out.below hst)
  replace HVy := hid (HVy.out.below hst)
  replace HFy := hid (HFy.out.below hst)
  replace HVs := hid (HVs.out.below hst)
  replace HFs := hid (HFs.out.below hst)
  replace HVp := hid (HVp.out.below hst)
  replace HFp := hid (HFp.out.below hst)
  have HVm := hid hV
  clear hst hV
  obtain ⟨as0, as1, as2, _⟩ := HVs.out.cells
  go_wp2_with fail
  refine Calls.mono (K.out.n _ _ HFs.out HT0.out) ?_
  rintro e w8 ⟨hB, sn, pn, kn, cn, qn, ln, dn, rfl, hF⟩
  clear as0 as1 as2
  go_upto_region 11 with fail
  have hal := (Below.refl w8.heap.size w8).alloc (Nat.le_refl _) (.cells #[.bool sn, .slice pn kn cn, .slice qn ln dn] 24)
  have hV := Var3.alloc w8 (x := .bool sn) (y := .slice pn kn cn) (z := .slice qn ln dn) 24 trivial trivial trivial
  have hst := held_any hB hal
  have HFn := hid (hF.out.below hal)
  clear hB hal hF
  generalize w8.alloc (.cells #[.bool sn, .slice pn kn cn, .slice qn ln dn] 24) = Wn at *
  generalize w8.heap.size = Bn at *
  replace HT0 := hid (HT0.out.below hst)
  replace HB := hid (HB.out.trans (hst.mono HB.out.size))
  replace HVx := hid (HVx.out.below hst)
  replace HFx := hid (HFx.out.below hst)
  replace HVy := hid (HVy.out.below hst)
  replace HFy := hid (HFy.out.below hst)
  replace HVs := hid (HVs.out.below hst)
  replace HFs := hid (HFs.out.below hst)
  replace HVp := hid (HVp.out.below hst)
  replace HFp := hid (HFp.out.below hst)
  replace HVm := hid (HVm.out.below hst)
  replace HFm := hid (HFm.out.below hst)
  have HVn := hid hV
  clear hst hV
  obtain ⟨as0, as1, as2, _⟩ := HVs.out.cells
  obtain ⟨ap0, ap1, ap2, _⟩ := HVp.out.cells
  go_wp2_with fail
  refine Calls.mono (K.out.e1 _ _ _ HFs.out HFp.out) ?_
  rintro e w20 ⟨rfl, hst⟩
  clear as0 as1 as2 ap0 ap1 ap2
  clear HVs HFs
  clear HVp HFp
  replace HT0 := hid (HT0.out.below hst)
  replace HB := hid (HB.out.trans (hst.mono HB.out.size))
  replace HVx := hid (HVx.out.below hst)
  replace HFx := hid (HFx.out.below hst)
  replace HVy := hid (HVy.out.below hst)
  replace HFy := hid (HFy.out.below hst)
  replace HVm := hid (HVm.out.below hst)
  replace HFm := hid (HFm.out.below hst)
  replace HVn := hid (HVn.out.below hst)
  replace HFn := hid (HFn.out.below hst)
  clear hst
  obtain ⟨am0, am1, am2, _⟩ := HVm.out.cells
  obtain ⟨an0, an1, an2, _⟩ := HVn.out.cells
  go_wp2_with fail
  refine Calls.mono (K.out.e2 _ _ _ HFm.out HFn.out) ?_
  rintro e w21 ⟨rfl, hst⟩
  clear am0 am1 am2 an0 an1 an2
  clear HVm HFm
  clear HVn HFn
  replace HT0 := hid (HT0.out.below hst)
  replace HB := hid (HB.out.trans (hst.mono HB.out.size))
  replace HVx := hid (HVx.out.below hst)
  replace HFx := hid (HFx.out.below hst)
  replace HVy := hid (HVy.out.below hst)
  replace HFy := hid (HFy.out.below hst)
  clear hst
  obtain ⟨ax0, ax1, ax2, _⟩ := HVx.out.cells
  obtain ⟨ay0, ay1, ay2, _⟩ := HVy.out.cells
  go_wp2_with fail
  refine Calls.mono (K.out.d _ _ _ HFx.out HFy.out HT0.out) ?_
  rintro e w9 ⟨hB, su, pu, ku, cu, qu, lu, du, rfl, hF⟩
  clear ax0 ax1 ax2 ay0 ay1 ay2
  go_upto_region 14 with fail
  have hal := (Below.refl w9.heap.size w9).alloc (Nat.le_refl _) (.cells #[.bool su, .slice pu ku cu, .slice qu lu du] 24)
  have hV := Var3.alloc w9 (x := .bool su) (y := .slice pu ku cu) (z := .slice qu lu du) 24 trivial trivial trivial
  have hst := held_any hB hal
  have HFu := hid (hF.out.below hal)
  clear hB hal hF
  generalize w9.alloc (.cells #[.bool su, .slice pu ku cu, .slice qu lu du] 24) = Wu at *
  generalize w9.heap.size = Bu at *
  clear HVx HFx
  clear HVy HFy
  replace HT0 := hid (HT0.out.below hst)
  replace HB := hid (HB.out.trans (hst.mono HB.out.size))
  have HVu := hid hV
  clear hst hV
  go_wp2_with fail
  refine Calls.mono (K.out.q _ HT0.out) ?_
  rintro e w10 ⟨hB, sv, pv, kv, cv, qv, lv, dv, rfl, hF⟩
  go_upto_region 15 with fail
  have hal := (Below.refl w10.heap.size w10).alloc (Nat.le_refl _) (.cells #[.bool sv, .slice pv kv cv, .slice qv lv dv] 24)
  have hV := Var3.alloc w10 (x := .bool sv) (y := .slice pv kv cv) (z := .slice qv lv dv) 24 trivial trivial trivial
  have hst := held_any hB hal
  have HFv := hid (hF.out.below hal)
  clear hB hal hF
  generalize w10.alloc (.cells #[.bool sv, .slice pv kv cv, .slice qv lv dv] 24) = Wv at *
  generalize w10.heap.size = Bv at *
  replace HT0 := hid (HT0.out.below hst)
  replace HB := hid (HB.out.trans (hst.mono HB.out.size))
  replace HVu := hid (HVu.out.below hst)
  replace HFu := hid (HFu.out.below hst)
  have HVv := hid hV
  clear hst hV
  obtain ⟨av0, av1, av2, _⟩ := HVv.out.cells
  obtain ⟨au0, au1, au2, _⟩ := HVu.out.cells
  go_wp2_with fail
  refine Calls.mono (K.out.z _ _ _ HFv.out HFu.out) ?_
  rintro e w22 ⟨rfl, hst⟩
  clear av0 av1 av2 au0 au1 au2
  replace HT0 := hid (HT0.out.below hst)
  replace HB := hid (HB.out.trans (hst.mono HB.out.size))
  clear hst
  have HAw := hid (awake_any w22 HT0.out)
  go_wp2_with fail
  refine HAw.out.mono ?_
  rintro e w23 ⟨rfl, hst⟩
  have HZ := hid (HB.out.trans (hst.mono HB.out.size))
  clear hst
  go_wp2_with fail
  go_ret
  exact ⟨rfl, HZ.out⟩
end Go.Proofs.YtjnfnngobkjneaaDoor
