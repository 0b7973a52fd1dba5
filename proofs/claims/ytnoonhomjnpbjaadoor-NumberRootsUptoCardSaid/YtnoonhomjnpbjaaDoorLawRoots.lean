/- Root of the reference, and the law NumberRoots. -/
import Derived.Test.YtnoonhomjnpbjaaDoorRootH
import Derived.Test.YtnoonhomjnpbjaaDoorRootE
namespace Go.Proofs.YtnoonhomjnpbjaaDoor
open Go.RowKit Dg Rt

def URF3 (w : World) (e : Ending) (c : Int) (b : Bool) (r : Bool × Nat × Nat) : Prop :=
  ∃ sg pa ka ca pb kb cb, e = .returned (.tuple #[.agg #[.bool sg, .slice pa ka ca, .slice pb kb cb], .bool b, .int .i64 c]) ∧ Hid (FNorm w (.agg #[.bool sg, .slice pa ka ca, .slice pb kb cb]) r)
theorem FRes3.uniF {w : World} {e : Ending} {c : Int} {b : Bool} {t : Bool × Nat × Nat} (h : FRes3 w e c b (outF t)) : URF3 w e c b (resT c t) := by
  rcases h with ⟨h0, rfl⟩ | ⟨rfl, sg, pa, ka, ca, pb, kb, cb, rfl, hF⟩
  · refine ⟨false, none, 0, 0, none, 0, 0, rfl, hid ?_⟩
    rw [resT, if_neg h0]
    exact ⟨_, _, rfl, Rep.nil, Rep.nil⟩
  · refine ⟨sg, pa, ka, ca, pb, kb, cb, rfl, hid ?_⟩
    rw [resT, if_pos rfl]
    exact hF.out
theorem big_rootr {t : Bool × Nat × Nat} {n : Nat} (hn : 0 < n) (h1 : t.2.1 < W32 ^ 64) (h2 : t.2.2 < W32 ^ 64) : big (rootr t n).2.1 (rootr t n).2.2 = false := by
  have k1 := Nat.lt_of_le_of_lt (nroot_le (a := t.2.1) hn) h1
  have k2 := Nat.lt_of_le_of_lt (nroot_le (a := t.2.2) hn) h2
  unfold big rootr
  split
  · exact decide_eq_false (by show ¬ (_ ≤ nroot _ _ ∨ _ ≤ nroot _ _); omega)
  · exact decide_eq_false (by show ¬ (_ ≤ 0 ∨ _ ≤ 0); omega)
theorem outF_rootq (t : Bool × Nat × Nat) (n : Nat) : outF (rootq t n) = outF (rootr t n) := by
  unfold rootq
  split
  · rfl
  · rename_i h
    unfold rootr
    rw [if_neg h]
    rfl
theorem rootq_fr {t : Bool × Nat × Nat} {n : Nat} (h : IsFr t) (hn : 0 < n) : IsFr (rootq t n) := by
  unfold rootq
  split
  · exact rootr_fr h hn (by assumption)
  · exact ⟨false, 0, 1, Nat.one_pos, by decide⟩
theorem rRoot_ret {W : World} {B : Nat} {x y z ew ev : Value} {tm : Array Value} {R : Ending → World → Prop} (h2 : tm[4]?.getD undef = .pointer (some ⟨B, 0, none⟩)) (h3 : tm[5]?.getD undef = ew) (h4 : tm[6]?.getD undef = ev) (hV : Var3 W B x y z)
    (hR : R (.returned (.tuple #[.agg #[x, y, z], ew, ev])) W) : bodyPost Tryd.prog Tryd.f9 R .ret { tmps := tm, defers := [] } W := by
  obtain ⟨c0, c1, c2, _, _, _⟩ := hV.cells
  exact bodyPost_ret (v := .tuple #[.agg #[x, y, z], ew, ev]) (by simp [results, Tryd.results9, go_sem, h2, h3, h4, c0, c1, c2]) rfl hR

set_option maxHeartbeats 8000000 in
set_option maxRecDepth 100000 in
theorem rRoot_u (vx : Value) (x : Bool × Nat × Nat) (p : Int) (w : World) (hx : NRep w vx x) :
    Calls Tryd.prog 9 #[vx, .int .i64 p] w fun e w' => Below w.heap.size w w' ∧ URF3 w' e (ucode x.2.1 x.2.2 (rtc p) (rootr (fr x) p.natAbs)) (rfound x.2.1 x.2.2 (fr x) p) (resT (ucode x.2.1 x.2.2 (rtc p) (rootr (fr x) p.natAbs)) (rootr (fr x) p.natAbs)) := by
  have HX := hid hx
  obtain ⟨_, _, rfl, ⟨p1, k1, c1, rfl, _⟩, ⟨p2, k2, c2, rfl, _⟩⟩ := hx
  obtain ⟨s1, hsx⟩ : ∃ s, s = x.1 := ⟨_, rfl⟩
  rw [← hsx] at HX ⊢
  clear hsx
  obtain ⟨cc, hcc⟩ : ∃ c, c = ucode x.2.1 x.2.2 (rtc p) (rootr (fr x) p.natAbs) := ⟨_, rfl⟩
  rw [← hcc]
  obtain ⟨rt, hrt⟩ : ∃ r, r = resT cc (rootr (fr x) p.natAbs) := ⟨_, rfl⟩
  rw [← hrt]
  obtain ⟨fb, hfb⟩ : ∃ r, r = rfound x.2.1 x.2.2 (fr x) p := ⟨_, rfl⟩
  rw [← hfb]
  have HC := hid (And.intro hcc (And.intro hrt hfb))
  clear hcc hrt hfb
  go_enter Tryd.func9, Tryd.ntmps9
  go_upto_region 1 with fail
  have hVa := (Var3.alloc w (x := .bool s1) (y := .slice p1 k1 c1) (z := .slice p2 k2 c2) 24 trivial trivial trivial).below ((Below.refl _ _).alloc (Nat.le_refl _) (.cells #[.bool false, .slice none 0 0, .slice none 0 0] 24))
  have hVr := Var3.alloc2 w (.cells #[.bool s1, .slice p1 k1 c1, .slice p2 k2 c2] 24) (x := .bool false) (y := .slice none 0 0) (z := .slice none 0 0) 24 trivial trivial trivial
  have hB0 := below_alloc2 w (.cells #[.bool s1, .slice p1 k1 c1, .slice p2 k2 c2] 24) (.cells #[.bool false, .slice none 0 0, .slice none 0 0] 24)
  generalize (w.alloc (.cells #[.bool s1, .slice p1 k1 c1, .slice p2 k2 c2] 24)).alloc (.cells #[.bool false, .slice none 0 0, .slice none 0 0] 24) = W0 at *
  have HV := hid (And.intro hVr hB0)
  have HVa := hid hVa
  replace HX := hid (HX.out.below hB0)
  obtain ⟨x0, x1, x2, _⟩ := hVa.cells
  clear hVa hVr hB0
  go_wp2_with fail
  refine (Large_any _ x _ HX.out).mono ?_
  rintro e w1 ⟨rfl, hst⟩
  clear x0 x1 x2
  replace HX := hid (HX.out.below hst)
  replace HVa := hid (HVa.out.below hst)
  replace HV := hid (And.intro (HV.out.1.below hst) (HV.out.2.trans (hst.mono HV.out.2.size)))
  clear hst
  cases hl : large x.2.1 x.2.2
  case true =>
    have hc := HC.out.1
    rw [ucode_one hl] at hc
    subst hc
    have hr : rt = (false, 0, 0) := HC.out.2.1.trans (if_neg (by decide))
    have hf : fb = false := HC.out.2.2.trans (by unfold rfound; rw [if_pos hl])
    subst hr
    subst hf
    clear hl HC HX
    obtain ⟨x0, x1, x2, y0, y1, y2⟩ := HV.out.1.cells
    go_wp2_with fail
    refine rRoot_ret rfl rfl rfl (HV.out.1.store trivial trivial trivial) ⟨below_set3 HV.out.2 (by omega), ?_⟩
    exact ⟨_, _, _, _, _, _, _, rfl, hid ⟨_, _, rfl, Rep.nil, Rep.nil⟩⟩
  case false =>
    have hc := HC.out.1
    rw [ucode_ok hl] at hc
    have hf := HC.out.2.2
    rw [show rfound x.2.1 x.2.2 (fr x) p = (decide (rtc p = 0) && rootOk (fr x) p.natAbs) by unfold rfound; rw [hl]; rfl] at hf
    have hbx := fr_bd hl
    have HO := hid (fun (W : World) (h : NRep W (.agg #[.bool s1, .slice p1 k1 c1, .slice p2 k2 c2]) x) => rOfF_any _ x W h hl)
    clear hl
    by_cases h1 : p < 2 ∨ 8 < p
    · have hpc : rtc p = 2 := if_pos h1
      rw [hpc, if_pos (by decide)] at hc
      rw [hpc] at hf
      have hf2 : fb = false := hf
      clear hf
      subst hc hf2
      have hrr : rt = (false, 0, 0) := HC.out.2.1.trans (if_neg (by decide))
      subst hrr
      have hor : p < 2 ∨ (¬ p < 2 ∧ 8 < p) := by omega
      clear HC HX hbx HO h1 hpc
      obtain ⟨x0, x1, x2, y0, y1, y2⟩ := HV.out.1.cells
      rcases hor with hor | ⟨hor1, hor2⟩
      · have hd1 : decide (p < 2) = true := decide_eq_true hor
        go_wp2_with fail
        refine rRoot_ret rfl rfl rfl (HV.out.1.store trivial trivial trivial) ⟨below_set3 HV.out.2 (by omega), ?_⟩
        exact ⟨_, _, _, _, _, _, _, rfl, hid ⟨_, _, rfl, Rep.nil, Rep.nil⟩⟩
      · have hd1 : decide (p < 2) = false := decide_eq_false hor1
        have hd2 : decide (8 < p) = true := decide_eq_true hor2
        go_wp2_with fail
        refine rRoot_ret rfl rfl rfl (HV.out.1.store trivial trivial trivial) ⟨below_set3 HV.out.2 (by omega), ?_⟩
        exact ⟨_, _, _, _, _, _, _, rfl, hid ⟨_, _, rfl, Rep.nil, Rep.nil⟩⟩
    · have hd1 : decide (p < 2) = false := decide_eq_false (by omega)
      have hd2 : decide (8 < p) = false := decide_eq_false (by omega)
      have hpc : rtc p = 0 := if_neg h1
      obtain ⟨m, rfl⟩ : ∃ m : Nat, p = (m : Int) := ⟨p.natAbs, by omega⟩
      rw [hpc, if_neg (by decide), show ((m : Int)).natAbs = m by omega, if_neg (by rw [big_rootr (by omega) hbx.1 hbx.2]; decide)] at hc
      subst hc
      rw [hpc, show ((m : Int)).natAbs = m by omega] at hf
      have hf2 : fb = rootOk (fr x) m := hf.trans (Bool.true_and _)
      have hr : rt = outF (rootq (fr x) m) := HC.out.2.1.trans (by rw [resT, if_pos rfl, outF_rootq, show ((m : Int)).natAbs = m by omega])
      obtain ⟨A, hA1, hA2⟩ : ∃ A : Nat, 128 ≤ A ∧ A ≤ 400 := ⟨128, by omega, by omega⟩
      have hn := lt_W_B6 hbx.1 hA1
      have hd := lt_W_B6 hbx.2 hA1
      have hq := rootq_fr (n := m) (IsFr.fr x) (by omega)
      have hqb : (rootq (fr x) m).2.1 < B16 ^ 1000000000 ∧ (rootq (fr x) m).2.2 < B16 ^ 1000000000 := by
        unfold rootq
        split
        · unfold rootr
          rw [if_pos (by assumption)]
          exact ⟨b_big (Nat.lt_of_le_of_lt (nroot_le (by omega)) hn) (by omega), b_big (Nat.lt_of_le_of_lt (nroot_le (by omega)) hd) (by omega)⟩
        · exact ⟨b_big (a := 1) (by rw [Nat.pow_one, B16_val]; decide) (by omega), b_big (a := 1) (by rw [Nat.pow_one, B16_val]; decide) (by omega)⟩
      have HE := hid (fun (W : World) (v1 : Value) (q1 : QNorm W v1 (fr x)) => rExact_any v1 (fr x) m A W q1 (IsFr.fr x) hn hd hA2 (by omega) (by omega))
      have HR := hid (fun (W : World) (v1 : Value) (q1 : QNorm W v1 (rootq (fr x) m)) => rRatF_any v1 (rootq (fr x) m) W q1 hqb.1 hqb.2 hq.pos hq.zs)
      rw [← hr] at HR
      have HF := hid hf2
      clear hf hf2 hr hbx HC h1 hpc hA1 hA2 hn hd hq hqb
      obtain ⟨x0, x1, x2, _⟩ := HVa.out.cells
      go_wp2_with fail
      refine (HO.out _ HX.out).mono ?_
      rintro e w2 ⟨s5, p5, k5, c5, p6, k6, c6, rfl, hQ1, hB2⟩
      go_wp2_with fail
      refine (HE.out _ _ hQ1.out).mono ?_
      rintro e w3 ⟨hB3, sg, pa, ka, ca, pb, kb, cb, rfl, hQ3⟩
      rw [← HF.out]
      have hst := held_any hB2 hB3
      clear x0 x1 x2 HO HE hB2 hB3 hQ1
      replace HV := hid (And.intro (HV.out.1.below hst) (HV.out.2.trans (hst.mono HV.out.2.size)))
      clear hst
      have HQ3 := hid hQ3
      clear hQ3
      go_wp2_with fail
      have hal := (Below.refl w3.heap.size w3).alloc (Nat.le_refl _) (.cells #[.bool sg, .slice pa ka ca, .slice pb kb cb] 57)
      refine (HR.out _ _ (HQ3.out.below hal)).mono ?_
      rintro e w4 ⟨s7, p7, k7, c7, p8, k8, c8, rfl, hF, hB4⟩
      have hst := held_any hal hB4
      clear HR HQ3 hal hB4
      replace HV := hid (And.intro (HV.out.1.below hst) (HV.out.2.trans (hst.mono HV.out.2.size)))
      clear hst
      obtain ⟨x0, x1, x2, y0, y1, y2⟩ := HV.out.1.cells
      go_wp2_with fail
      exact rRoot_ret rfl rfl rfl (HV.out.1.store trivial trivial trivial) ⟨below_set3 HV.out.2 (by omega), _, _, _, _, _, _, _, rfl, hid (hF.out.store3 HV.out.1 _ _ _)⟩
theorem root_ok (x : Bool × Nat × Nat) (p : Int) : ucode x.2.1 x.2.2 (rtc p) (rootr (fr x) p.natAbs) = 0 → Canon (resT (ucode x.2.1 x.2.2 (rtc p) (rootr (fr x) p.natAbs)) (rootr (fr x) p.natAbs)).1 (resT (ucode x.2.1 x.2.2 (rtc p) (rootr (fr x) p.natAbs)) (rootr (fr x) p.natAbs)).2.1 (resT (ucode x.2.1 x.2.2 (rtc p) (rootr (fr x) p.natAbs)) (rootr (fr x) p.natAbs)).2.2 ∧ Few (resT (ucode x.2.1 x.2.2 (rtc p) (rootr (fr x) p.natAbs)) (rootr (fr x) p.natAbs)) := by
  intro h
  obtain ⟨_, hc, hb⟩ := ucode_big h
  have hp : 0 < p.natAbs := by
    unfold rtc at hc
    split at hc
    · exact absurd hc (by decide)
    · omega
  rw [h, resT, if_pos rfl, ← outF_rootq]
  refine res_ok (rootq_fr (IsFr.fr x) hp) ?_
  unfold rootq
  split
  · exact hb
  · exact big_small (by rw [W32_val]; decide) (by rw [W32_val]; decide)

set_option maxHeartbeats 16000000 in
set_option maxRecDepth 100000 in
theorem NumberRoots_any (vx : Value) (x : Bool × Nat × Nat) (p : Int) (w : World) (hx : NRep w vx x) (_hlo : -9223372036854775808 ≤ p) (_hhi : p < 9223372036854775808) (ht : TabOk w) :
    Calls Tryd.prog 3 #[vx, .int .i64 p] w fun e w' => e = .returned (.bool true) ∧ Below w.heap.size w w' := by
  have HX := hid hx
  obtain ⟨_, _, rfl, ⟨pa, ka, ca, rfl, _⟩, ⟨pb, kb, cb, rfl, _⟩⟩ := hx
  obtain ⟨sx, hsx⟩ : ∃ s, s = x.1 := ⟨_, rfl⟩
  have hal := (Below.refl w.heap.size w).alloc (Nat.le_refl _) (.cells #[.bool sx, .slice pa ka ca, .slice pb kb cb] 24)
  have hV := Var3.alloc w (x := .bool sx) (y := .slice pa ka ca) (z := .slice pb kb cb) 24 trivial trivial trivial
  rw [← hsx] at HX ⊢
  clear hsx
  have HX0 := hid (HX.out.below hal)
  have HT0 := hid (ht.below hal)
  have HB := hid hal
  have HVx := hid hV
  clear HX ht hal hV
  obtain ⟨g1, hg1⟩ : ∃ g, g = ucode x.2.1 x.2.2 (rtc p) (rootr (fr x) p.natAbs) := ⟨_, rfl⟩
  obtain ⟨r1, hr1⟩ : ∃ g, g = resT (ucode x.2.1 x.2.2 (rtc p) (rootr (fr x) p.natAbs)) (rootr (fr x) p.natAbs) := ⟨_, rfl⟩
  obtain ⟨fb, hfb⟩ : ∃ g, g = rfound x.2.1 x.2.2 (fr x) p := ⟨_, rfl⟩
  have HI1 := hid (fun (W : World) (v u : Value) (hv : FNorm W v r1) (hu : FNorm W u r1) => Is_same v u g1 r1 W hv hu (by rw [hr1, hg1]; exact root_ok x p) (by rw [hr1, hg1]; exact resT_no))
  have HN1 := hid (fun (W : World) (v : Value) (h : NRep W v x) (ht : TabOk W) => (nRoot_any v _ _ _ p W h ht).mono (R' := fun e w' => Below W.heap.size W w' ∧ URF3 w' e g1 fb r1) fun _ _ hR => ⟨hR.1, by rw [hg1, hr1, hfb]; exact hR.2.uniF⟩)
  have HR1 := hid (fun (W : World) (v : Value) (h : NRep W v x) => rRoot_u v x p W h)
  rw [← hr1, ← hg1, ← hfb] at HR1
  clear hg1 hr1 hfb
  go_enter Tryd.func3, Tryd.ntmps3
  go_upto_region 1 with fail
  generalize w.alloc (.cells #[.bool sx, .slice pa ka ca, .slice pb kb cb] 24) = W0 at *
  obtain ⟨a0, a1, a2, _⟩ := HVx.out.cells
  go_wp2_with fail
  refine (HN1.out _ _ HX0.out HT0.out).mono ?_
  rintro e w1 ⟨hB1, sn1, pn1, kn1, cn1, qn1, ln1, dn1, rfl, hF⟩
  clear a0 a1 a2
  go_upto_region 2 with fail
  have hal := (Below.refl w1.heap.size w1).alloc (Nat.le_refl _) (.cells #[.bool sn1, .slice pn1 kn1 cn1, .slice qn1 ln1 dn1] 24)
  have hV := Var3.alloc w1 (x := .bool sn1) (y := .slice pn1 kn1 cn1) (z := .slice qn1 ln1 dn1) 24 trivial trivial trivial
  have hst := held_any hB1 hal
  have HF1 := hid (hF.out.below hal)
  clear hB1 hal hF
  generalize w1.alloc (.cells #[.bool sn1, .slice pn1 kn1 cn1, .slice qn1 ln1 dn1] 24) = V1 at *
  generalize w1.heap.size = B1 at *
  replace HVx := hid (HVx.out.below hst)
  replace HX0 := hid (HX0.out.below hst)
  replace HT0 := hid (HT0.out.below hst)
  replace HB := hid (HB.out.trans (hst.mono HB.out.size))
  have HV1 := hid hV
  clear hst hV
  obtain ⟨a0, a1, a2, _⟩ := HVx.out.cells
  go_wp2_with fail
  refine (HR1.out _ _ HX0.out).mono ?_
  rintro e w2 ⟨hB1, sn2, pn2, kn2, cn2, qn2, ln2, dn2, rfl, hF⟩
  clear a0 a1 a2
  go_upto_region 3 with fail
  have hal := (Below.refl w2.heap.size w2).alloc (Nat.le_refl _) (.cells #[.bool sn2, .slice pn2 kn2 cn2, .slice qn2 ln2 dn2] 24)
  have hV := Var3.alloc w2 (x := .bool sn2) (y := .slice pn2 kn2 cn2) (z := .slice qn2 ln2 dn2) 24 trivial trivial trivial
  have hst := held_any hB1 hal
  have HF2 := hid (hF.out.below hal)
  clear hB1 hal hF
  generalize w2.alloc (.cells #[.bool sn2, .slice pn2 kn2 cn2, .slice qn2 ln2 dn2] 24) = V2 at *
  generalize w2.heap.size = B2 at *
  replace HVx := hid (HVx.out.below hst)
  replace HX0 := hid (HX0.out.below hst)
  replace HT0 := hid (HT0.out.below hst)
  replace HV1 := hid (HV1.out.below hst)
  replace HF1 := hid (HF1.out.below hst)
  replace HB := hid (HB.out.trans (hst.mono HB.out.size))
  have HV2 := hid hV
  clear hst hV
  obtain ⟨a0, a1, a2, _⟩ := HV1.out.cells
  obtain ⟨b0, b1, b2, _⟩ := HV2.out.cells
  go_wp2_with fail
  refine (HI1.out _ _ _ HF1.out HF2.out).mono ?_
  rintro e w3 ⟨rfl, hst⟩
  clear a0 a1 a2 b0 b1 b2
  replace HT0 := hid (HT0.out.below hst)
  replace HV1 := hid (HV1.out.below hst)
  replace HF1 := hid (HF1.out.below hst)
  replace HV2 := hid (HV2.out.below hst)
  replace HF2 := hid (HF2.out.below hst)
  replace HB := hid (HB.out.trans (hst.mono HB.out.size))
  clear hst
  have HAw := hid (awake_any w3 HT0.out)
  go_wp2_with fail
  refine HAw.out.mono ?_
  rintro e w4 ⟨rfl, hst⟩
  have HZ := hid (HB.out.trans (hst.mono HB.out.size))
  clear hst
  go_wp2_with fail
  go_ret
  exact ⟨rfl, HZ.out⟩
end Go.Proofs.YtnoonhomjnpbjaaDoor
