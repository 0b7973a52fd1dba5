/- The law NumberTexts. -/
import Derived.Test.YtjnfnngobkjneaaGreatDoorTxtM
namespace Go.Proofs.YtjnfnngobkjneaaGreatDoor
open Go.RowKit Dg Dc

def CFmt (W : World) (v : Value) (S : ByteArray) (c : Int) : Prop :=
  Calls Tryz.prog 11 #[v] W fun e w' => e = .returned (.tuple #[.string S, .int .i64 c]) ∧ Below W.heap.size W w'
def CPrs (W : World) (S : ByteArray) (c : Int) (r : Bool × Nat × Nat) : Prop :=
  Calls Tryz.prog 12 #[.string S] W fun e w' => Below W.heap.size W w' ∧ URF w' e c r
def CCan (W : World) (v : Value) : Prop :=
  Calls Tryz.prog 13 #[v] W fun e w' => e = .returned (.bool true) ∧ Below W.heap.size W w'
def CEq (W : World) (v u : Value) : Prop :=
  Calls Tryz.prog 14 #[v, u] W fun e w' => e = .returned (.bool true) ∧ Below W.heap.size W w'

theorem txt_first (a : Bool × Nat × Nat) : ∃ c S, (∀ W v, NRep W v a → TabOk W → Tab10 W → CFmt W v S c) ∧ (c ≠ 0 ∨ c = 0 ∧ ∃ r, (∀ W, TabOk W → CPrs W S 0 r) ∧ (∀ W v, FNorm W v r → CCan W v) ∧ (∀ W v u, NRep W v a → FNorm W u r → CEq W v u)) := by
  obtain ⟨S, hS⟩ : ∃ S : ByteArray, str (fmts a) = .string S := ⟨_, rfl⟩
  refine ⟨fmtc a, S, fun W v h h1 h2 => ?_, ?_⟩
  · have hh := nFormat_any v a W h h1 h2
    rw [hS] at hh
    exact hh
  · cases hL : large a.2.1 a.2.2
    · refine .inr ⟨(fmt_small hL).1, outF (fr a), fun W h => ?_, fun W v h => canon_call (IsFr.fr a) (large_big hL) W v h, fun W v u h h' => same_call hL W v u h h'⟩
      rw [(fmt_small hL).2] at hS
      exact parse_at hS (parse_ftxt (IsFr.fr a) (large_big hL)) W h
    · exact .inl (by rw [(fmt_large hL).1]; decide)
theorem txt_second (s : ByteArray) : ∃ c r, (∀ W, TabOk W → CPrs W s c r) ∧ (c ≠ 0 ∨ c = 0 ∧ ∃ S, (∀ W v, FNorm W v r → TabOk W → Tab10 W → CFmt W v S 0) ∧ (∀ W, TabOk W → CPrs W S 0 r) ∧ (∀ W v u, FNorm W v r → FNorm W u r → CEq W v u)) := by
  refine ⟨tcode s.data.toList, resT (tcode s.data.toList) (ttrip s.data.toList), fun W h => parse_at (str_data s) ⟨rfl, rfl⟩ W h, ?_⟩
  by_cases h0 : tcode s.data.toList = 0
  · have ht := tcode_ok h0
    rw [h0]
    generalize ttrip s.data.toList = t at *
    obtain ⟨S, hS⟩ : ∃ S : ByteArray, str (ftxt t) = .string S := ⟨_, rfl⟩
    have hr : resT 0 t = outF t := rfl
    rw [hr]
    have hL := out_large ht.1 ht.2
    have hf := fr_outT ht.1
    refine .inr ⟨rfl, S, fun W v h h1 h2 => ?_, fun W h => parse_at hS (parse_ftxt ht.1 ht.2) W h, fun W v u h h' => same_call hL W v u (fnorm_nrep ht.2 h) (by rw [hf]; exact h')⟩
    have hh := nFormat_any v (outF t) W (fnorm_nrep ht.2 h) h1 h2
    rw [(fmt_small hL).2, (fmt_small hL).1, hf, hS] at hh
    exact hh
  · exact .inl h0

set_option maxHeartbeats 16000000 in
set_option maxRecDepth 100000 in
theorem NumberTexts_any (v : Value) (a : Bool × Nat × Nat) (s : ByteArray) (w : World) (h : NRep w v a) (ht : TabOk w) (h10 : Tab10 w) :
    Calls Tryz.prog 4 #[v, .string s] w fun e w' => e = .returned (.bool true) ∧ Below w.heap.size w w' := by
  have HX := hid h
  obtain ⟨vn, vd, rfl, ⟨p1, k1, c1, rfl, _⟩, ⟨p2, k2, c2, rfl, _⟩⟩ := h
  obtain ⟨s1, hs1⟩ : ∃ s1, s1 = a.1 := ⟨_, rfl⟩
  rw [← hs1] at HX ⊢
  clear hs1
  have hal := (Below.refl w.heap.size w).alloc (Nat.le_refl _) (.cells #[.bool s1, .slice p1 k1 c1, .slice p2 k2 c2] 24)
  have HV := hid (Var3.alloc w (x := .bool s1) (y := .slice p1 k1 c1) (z := .slice p2 k2 c2) 24 trivial trivial trivial)
  replace HX := hid (HX.out.below hal)
  have HT := hid (And.intro (ht.below hal) (h10.below hal))
  have HB := hid hal
  clear hal ht h10
  obtain ⟨ca, S, hf1, hf2⟩ := txt_first a
  obtain ⟨cb, r2, hg1, hg2⟩ := txt_second s
  have HF1 := hid hf1
  have HG1 := hid hg1
  clear hf1 hg1
  have HG2 := hid hg2
  clear hg2
  go_enter Tryz.func4, Tryz.ntmps4
  go_upto_region 1 with fail
  generalize w.alloc (.cells #[.bool s1, .slice p1 k1 c1, .slice p2 k2 c2] 24) = W0 at *
  obtain ⟨x0, x1, x2, _⟩ := HV.out.cells
  go_wp2_with fail
  refine Calls.mono (HF1.out _ _ HX.out HT.out.1 HT.out.2) ?_
  rintro e w1 ⟨rfl, hst⟩
  replace HT := hid (And.intro (HT.out.1.below hst) (HT.out.2.below hst))
  replace HB := hid (HB.out.trans (hst.mono HB.out.size))
  replace HV := hid (HV.out.below hst)
  replace HX := hid (HX.out.below hst)
  clear hst
  clear x0 x1 x2 HF1
  rcases hf2 with hn | ⟨rfl, r1, hf3, hf4, hf5⟩
  · have hne : ((ca == 0) = false) := by simpa using hn
    clear hn HV HX
    go_wp2_with fail
    refine Calls.mono (HG1.out _ HT.out.1) ?_
    rintro e w2 ⟨hB, sy, py, ky, cy, qy, ly, dy, rfl, hF⟩
    go_upto_region 7 with fail
    have hal := (Below.refl w2.heap.size w2).alloc (Nat.le_refl _) (.cells #[.bool sy, .slice py ky cy, .slice qy ly dy] 24)
    have HVy := hid (Var3.alloc w2 (x := .bool sy) (y := .slice py ky cy) (z := .slice qy ly dy) 24 trivial trivial trivial)
    have hst := held_any hB hal
    have HFy := hid (hF.out.below hal)
    clear hB hal hF
    generalize w2.alloc (.cells #[.bool sy, .slice py ky cy, .slice qy ly dy] 24) = Wy at *
    generalize w2.heap.size = By at *
    replace HT := hid (And.intro (HT.out.1.below hst) (HT.out.2.below hst))
    replace HB := hid (HB.out.trans (hst.mono HB.out.size))
    clear hst
    clear HG1
    rcases HG2.out with hn | ⟨rfl, S2, hg1, hg2, hg3⟩
    · have hne : ((cb != 0) = true) := by simpa using hn
      clear hn HG2
      have HAw := hid (awake_any _ HT.out.1)
      go_wp2_with fail
      refine HAw.out.mono ?_
      rintro e w3 ⟨rfl, hst⟩
      have HZ := hid (HB.out.trans (hst.mono HB.out.size))
      clear hst
      go_wp2_with fail
      go_ret
      exact ⟨rfl, HZ.out⟩
    · have HQ := hid (And.intro hg1 (And.intro hg2 hg3))
      clear hg1 hg2 hg3 HG2
      obtain ⟨y0, y1, y2, _⟩ := HVy.out.cells
      go_wp2_with fail
      refine Calls.mono (HQ.out.1 _ _ HFy.out HT.out.1 HT.out.2) ?_
      rintro e w4 ⟨rfl, hst⟩
      replace HT := hid (And.intro (HT.out.1.below hst) (HT.out.2.below hst))
      replace HB := hid (HB.out.trans (hst.mono HB.out.size))
      replace HVy := hid (HVy.out.below hst)
      replace HFy := hid (HFy.out.below hst)
      clear hst
      clear y0 y1 y2
      go_wp2_with fail
      refine Calls.mono (HQ.out.2.1 _ HT.out.1) ?_
      rintro e w5 ⟨hB, sz, pz, kz, cz, qz, lz, dz, rfl, hF⟩
      go_upto_region 11 with fail
      have hal := (Below.refl w5.heap.size w5).alloc (Nat.le_refl _) (.cells #[.bool sz, .slice pz kz cz, .slice qz lz dz] 24)
      have HVz := hid (Var3.alloc w5 (x := .bool sz) (y := .slice pz kz cz) (z := .slice qz lz dz) 24 trivial trivial trivial)
      have hst := held_any hB hal
      have HFz := hid (hF.out.below hal)
      clear hB hal hF
      generalize w5.alloc (.cells #[.bool sz, .slice pz kz cz, .slice qz lz dz] 24) = Wz at *
      generalize w5.heap.size = Bz at *
      replace HT := hid (And.intro (HT.out.1.below hst) (HT.out.2.below hst))
      replace HB := hid (HB.out.trans (hst.mono HB.out.size))
      replace HVy := hid (HVy.out.below hst)
      replace HFy := hid (HFy.out.below hst)
      clear hst
      obtain ⟨y0, y1, y2, _⟩ := HVy.out.cells
      obtain ⟨z0, z1, z2, _⟩ := HVz.out.cells
      go_wp2_with fail
      refine Calls.mono (HQ.out.2.2 _ _ _ HFy.out HFz.out) ?_
      rintro e w6 ⟨rfl, hst⟩
      replace HT := hid (And.intro (HT.out.1.below hst) (HT.out.2.below hst))
      replace HB := hid (HB.out.trans (hst.mono HB.out.size))
      clear hst
      clear y0 y1 y2 z0 z1 z2
      have HAw := hid (awake_any _ HT.out.1)
      go_wp2_with fail
      refine HAw.out.mono ?_
      rintro e w7 ⟨rfl, hst⟩
      have HZ := hid (HB.out.trans (hst.mono HB.out.size))
      clear hst
      go_wp2_with fail
      go_ret
      exact ⟨rfl, HZ.out⟩
  · have HQ1 := hid (And.intro hf3 (And.intro hf4 hf5))
    clear hf3 hf4 hf5
    go_wp2_with fail
    refine Calls.mono (HQ1.out.1 _ HT.out.1) ?_
    rintro e w8 ⟨hB, st, pt, kt, ct, qt, lt, dt, rfl, hF⟩
    go_upto_region 4 with fail
    have hal := (Below.refl w8.heap.size w8).alloc (Nat.le_refl _) (.cells #[.bool st, .slice pt kt ct, .slice qt lt dt] 24)
    have HVt := hid (Var3.alloc w8 (x := .bool st) (y := .slice pt kt ct) (z := .slice qt lt dt) 24 trivial trivial trivial)
    have hst := held_any hB hal
    have HFt := hid (hF.out.below hal)
    clear hB hal hF
    generalize w8.alloc (.cells #[.bool st, .slice pt kt ct, .slice qt lt dt] 24) = Wt at *
    generalize w8.heap.size = Bt at *
    replace HT := hid (And.intro (HT.out.1.below hst) (HT.out.2.below hst))
    replace HB := hid (HB.out.trans (hst.mono HB.out.size))
    replace HV := hid (HV.out.below hst)
    replace HX := hid (HX.out.below hst)
    clear hst
    obtain ⟨t0, t1, t2, _⟩ := HVt.out.cells
    go_wp2_with fail
    refine Calls.mono (HQ1.out.2.1 _ _ HFt.out) ?_
    rintro e w9 ⟨rfl, hst⟩
    replace HT := hid (And.intro (HT.out.1.below hst) (HT.out.2.below hst))
    replace HB := hid (HB.out.trans (hst.mono HB.out.size))
    replace HV := hid (HV.out.below hst)
    replace HX := hid (HX.out.below hst)
    replace HVt := hid (HVt.out.below hst)
    replace HFt := hid (HFt.out.below hst)
    clear hst
    clear t0 t1 t2
    obtain ⟨t0, t1, t2, _⟩ := HVt.out.cells
    obtain ⟨x0, x1, x2, _⟩ := HV.out.cells
    go_wp2_with fail
    refine Calls.mono (HQ1.out.2.2 _ _ _ HX.out HFt.out) ?_
    rintro e w10 ⟨rfl, hst⟩
    replace HT := hid (And.intro (HT.out.1.below hst) (HT.out.2.below hst))
    replace HB := hid (HB.out.trans (hst.mono HB.out.size))
    clear hst
    clear t0 t1 t2 x0 x1 x2 HV HX HVt HFt HQ1
    go_wp2_with fail
    refine Calls.mono (HG1.out _ HT.out.1) ?_
    rintro e w11 ⟨hB, sy, py, ky, cy, qy, ly, dy, rfl, hF⟩
    go_upto_region 7 with fail
    have hal := (Below.refl w11.heap.size w11).alloc (Nat.le_refl _) (.cells #[.bool sy, .slice py ky cy, .slice qy ly dy] 24)
    have HVy := hid (Var3.alloc w11 (x := .bool sy) (y := .slice py ky cy) (z := .slice qy ly dy) 24 trivial trivial trivial)
    have hst := held_any hB hal
    have HFy := hid (hF.out.below hal)
    clear hB hal hF
    generalize w11.alloc (.cells #[.bool sy, .slice py ky cy, .slice qy ly dy] 24) = Wy at *
    generalize w11.heap.size = By at *
    replace HT := hid (And.intro (HT.out.1.below hst) (HT.out.2.below hst))
    replace HB := hid (HB.out.trans (hst.mono HB.out.size))
    clear hst
    clear HG1
    rcases HG2.out with hn | ⟨rfl, S2, hg1, hg2, hg3⟩
    · have hne : ((cb != 0) = true) := by simpa using hn
      clear hn HG2
      have HAw := hid (awake_any _ HT.out.1)
      go_wp2_with fail
      refine HAw.out.mono ?_
      rintro e w12 ⟨rfl, hst⟩
      have HZ := hid (HB.out.trans (hst.mono HB.out.size))
      clear hst
      go_wp2_with fail
      go_ret
      exact ⟨rfl, HZ.out⟩
    · have HQ := hid (And.intro hg1 (And.intro hg2 hg3))
      clear hg1 hg2 hg3 HG2
      obtain ⟨y0, y1, y2, _⟩ := HVy.out.cells
      go_wp2_with fail
      refine Calls.mono (HQ.out.1 _ _ HFy.out HT.out.1 HT.out.2) ?_
      rintro e w13 ⟨rfl, hst⟩
      replace HT := hid (And.intro (HT.out.1.below hst) (HT.out.2.below hst))
      replace HB := hid (HB.out.trans (hst.mono HB.out.size))
      replace HVy := hid (HVy.out.below hst)
      replace HFy := hid (HFy.out.below hst)
      clear hst
      clear y0 y1 y2
      go_wp2_with fail
      refine Calls.mono (HQ.out.2.1 _ HT.out.1) ?_
      rintro e w14 ⟨hB, sz, pz, kz, cz, qz, lz, dz, rfl, hF⟩
      go_upto_region 11 with fail
      have hal := (Below.refl w14.heap.size w14).alloc (Nat.le_refl _) (.cells #[.bool sz, .slice pz kz cz, .slice qz lz dz] 24)
      have HVz := hid (Var3.alloc w14 (x := .bool sz) (y := .slice pz kz cz) (z := .slice qz lz dz) 24 trivial trivial trivial)
      have hst := held_any hB hal
      have HFz := hid (hF.out.below hal)
      clear hB hal hF
      generalize w14.alloc (.cells #[.bool sz, .slice pz kz cz, .slice qz lz dz] 24) = Wz at *
      generalize w14.heap.size = Bz at *
      replace HT := hid (And.intro (HT.out.1.below hst) (HT.out.2.below hst))
      replace HB := hid (HB.out.trans (hst.mono HB.out.size))
      replace HVy := hid (HVy.out.below hst)
      replace HFy := hid (HFy.out.below hst)
      clear hst
      obtain ⟨y0, y1, y2, _⟩ := HVy.out.cells
      obtain ⟨z0, z1, z2, _⟩ := HVz.out.cells
      go_wp2_with fail
      refine Calls.mono (HQ.out.2.2 _ _ _ HFy.out HFz.out) ?_
      rintro e w15 ⟨rfl, hst⟩
      replace HT := hid (And.intro (HT.out.1.below hst) (HT.out.2.below hst))
      replace HB := hid (HB.out.trans (hst.mono HB.out.size))
      clear hst
      clear y0 y1 y2 z0 z1 z2
      have HAw := hid (awake_any _ HT.out.1)
      go_wp2_with fail
      refine HAw.out.mono ?_
      rintro e w16 ⟨rfl, hst⟩
      have HZ := hid (HB.out.trans (hst.mono HB.out.size))
      clear hst
      go_wp2_with fail
      go_ret
      exact ⟨rfl, HZ.out⟩
end Go.Proofs.YtjnfnngobkjneaaGreatDoor
