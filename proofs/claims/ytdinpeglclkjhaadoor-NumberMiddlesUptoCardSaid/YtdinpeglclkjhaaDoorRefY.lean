/- The specification's Done, anyLarge, Add, Sub, Mul, Quo. -/
import Derived.Test.YtdinpeglclkjhaaDoorRefW
import Derived.Test.YtdinpeglclkjhaaDoorLawCompares
namespace Go.Proofs.YtdinpeglclkjhaaDoor
open Go.RowKit Dg

theorem Done_ret {W : World} {B : Nat} {x y z ev : Value} {tm : Array Value} {R : Ending → World → Prop} (h2 : tm[2]?.getD undef = .pointer (some ⟨B, 0, none⟩)) (h3 : tm[3]?.getD undef = ev) (hV : Var3 W B x y z)
    (hR : R (.returned (.tuple #[.agg #[x, y, z], ev])) W) : bodyPost Tryd.prog Tryd.f76 R .ret { tmps := tm, defers := [] } W := by
  obtain ⟨c0, c1, c2, _, _, _⟩ := hV.cells
  exact bodyPost_ret (v := .tuple #[.agg #[x, y, z], ev]) (by simp [results, Tryd.results76, go_sem, h2, h3, c0, c1, c2]) rfl hR

set_option maxHeartbeats 4000000 in
set_option maxRecDepth 100000 in
theorem Done_any (v : Value) (t : Bool × Nat × Nat) (w : World) (h : QNorm w v t) (hp : 0 < t.2.2) (hz : t.2.1 = 0 → t.1 = false) :
    Calls Tryd.prog 76 #[v] w fun e w' => Below w.heap.size w w' ∧ URF w' e (if big t.2.1 t.2.2 then 1 else 0) (resT (if big t.2.1 t.2.2 then 1 else 0) t) := by
  have HO := hid (fun (W : World) (hW : Below w.heap.size w W) => Over_any v t W (h.below hW))
  have HRt := hid (fun (hb : big t.2.1 t.2.2 = false) (W : World) (hW : Below w.heap.size w W) => rRatF_any v t W (h.below hW) (b16_64 (big_lt hb).1) (b16_64 (big_lt hb).2) hp hz)
  clear hp hz
  obtain ⟨vn1, vd1, rfl, ⟨p1, k1, c1, rfl, _⟩, ⟨p2, k2, c2, rfl, _⟩⟩ := h
  obtain ⟨s1, hs1⟩ : ∃ s, s = t.1 := ⟨_, rfl⟩
  rw [← hs1] at HO HRt ⊢
  clear hs1
  have hal := below_alloc2 w (.cells #[.bool s1, .slice p1 k1 c1, .slice p2 k2 c2] 34) (.cells #[.bool false, .slice none 0 0, .slice none 0 0] 24)
  have hV := (Var3.alloc w (x := .bool s1) (y := .slice p1 k1 c1) (z := .slice p2 k2 c2) 34 trivial trivial trivial).below ((Below.refl _ _).alloc (Nat.le_refl _) (.cells #[.bool false, .slice none 0 0, .slice none 0 0] 24))
  have hV2 := Var3.alloc2 w (.cells #[.bool s1, .slice p1 k1 c1, .slice p2 k2 c2] 34) (x := .bool false) (y := .slice none 0 0) (z := .slice none 0 0) 24 trivial trivial trivial
  have HB := hid hal
  have HVx := hid hV
  have HVr := hid hV2
  clear hal hV hV2
  cases hb : big t.2.1 t.2.2
  case true =>
    rw [hb] at HO
    rw [if_pos rfl, show resT 1 t = (false, 0, 0) from if_neg (by decide)]
    clear HRt hb
    go_enter Tryd.func76, Tryd.ntmps76
    go_upto_region 1 with fail
    generalize (w.alloc (.cells #[.bool s1, .slice p1 k1 c1, .slice p2 k2 c2] 34)).alloc (.cells #[.bool false, .slice none 0 0, .slice none 0 0] 24) = W0 at *
    obtain ⟨a0, a1, a2, _⟩ := HVx.out.cells
    go_wp2_with fail
    refine (HO.out _ HB.out).mono ?_
    rintro e w1 ⟨rfl, hst⟩
    clear a0 a1 a2
    replace HVr := hid (HVr.out.below hst)
    replace HB := hid (HB.out.trans (hst.mono HB.out.size))
    clear hst HO HVx
    obtain ⟨x0, x1, x2, y0, y1, y2⟩ := HVr.out.cells
    go_wp2_with fail
    refine Done_ret rfl rfl (HVr.out.store trivial trivial trivial) ⟨below_set3 HB.out (Nat.le_succ _), ?_⟩
    exact ⟨_, _, _, _, _, _, _, rfl, hid ⟨_, _, rfl, Rep.nil, Rep.nil⟩⟩
  case false =>
    rw [hb] at HO
    have HRt2 := hid (HRt.out hb)
    rw [if_neg (by decide), show resT 0 t = outF t from if_pos rfl]
    clear HRt hb
    go_enter Tryd.func76, Tryd.ntmps76
    go_upto_region 1 with fail
    generalize (w.alloc (.cells #[.bool s1, .slice p1 k1 c1, .slice p2 k2 c2] 34)).alloc (.cells #[.bool false, .slice none 0 0, .slice none 0 0] 24) = W0 at *
    obtain ⟨a0, a1, a2, _⟩ := HVx.out.cells
    go_wp2_with fail
    refine (HO.out _ HB.out).mono ?_
    rintro e w1 ⟨rfl, hst⟩
    clear a0 a1 a2
    replace HVx := hid (HVx.out.below hst)
    replace HVr := hid (HVr.out.below hst)
    replace HB := hid (HB.out.trans (hst.mono HB.out.size))
    clear hst HO
    obtain ⟨a0, a1, a2, _⟩ := HVx.out.cells
    go_wp2_with fail
    refine (HRt2.out _ HB.out).mono ?_
    rintro e w2 ⟨sg, pa, ka, ca, pb, kb, cb, rfl, hF, hst⟩
    clear a0 a1 a2
    replace HVr := hid (HVr.out.below hst)
    replace HB := hid (HB.out.trans (hst.mono HB.out.size))
    clear hst HVx HRt2
    obtain ⟨x0, x1, x2, y0, y1, y2⟩ := HVr.out.cells
    go_wp2_with fail
    exact Done_ret rfl rfl (HVr.out.store trivial trivial trivial) ⟨below_set3 HB.out (Nat.le_succ _), ⟨_, _, _, _, _, _, _, rfl, hid (hF.out.store3 HVr.out _ _ _)⟩⟩

set_option maxHeartbeats 4000000 in
set_option maxRecDepth 100000 in
theorem anyLarge_any (B : Nat) (sx sy : Bool) (pa pb pc pd : Option Addr) (ka kb kc kd ca cb cc cd : Nat) (x y : Bool × Nat × Nat) (w : World) (hBw : B < w.heap.size)
    (hx : NRep w (.agg #[.bool sx, .slice pa ka ca, .slice pb kb cb]) x) (hy : NRep w (.agg #[.bool sy, .slice pc kc cc, .slice pd kd cd]) y)
    (h0 : w.cell? ⟨B, 0, none⟩ = some (.bool sx)) (h1 : w.cell? ⟨B, 1, none⟩ = some (.slice pa ka ca)) (h2 : w.cell? ⟨B, 2, none⟩ = some (.slice pb kb cb))
    (h3 : w.cell? ⟨B, 3, none⟩ = some (.bool sy)) (h4 : w.cell? ⟨B, 4, none⟩ = some (.slice pc kc cc)) (h5 : w.cell? ⟨B, 5, none⟩ = some (.slice pd kd cd)) :
    Calls Tryd.prog 75 #[.slice (some ⟨B, 0, none⟩) 2 2] w fun e w' => e = .returned (.bool (large x.2.1 x.2.2 || large y.2.1 y.2.2)) ∧ Below w.heap.size w w' := by
  have HX := hid hx
  have HY := hid hy
  have HC := hid (fun (W : World) (hW : Below w.heap.size w W) => And.intro (And.intro ((bcellN hW B 0 hBw).trans h0) (And.intro ((bcellN hW B 1 hBw).trans h1) ((bcellN hW B 2 hBw).trans h2))) (And.intro ((bcellN hW B 3 hBw).trans h3) (And.intro ((bcellN hW B 4 hBw).trans h4) ((bcellN hW B 5 hBw).trans h5))))
  clear hx hy h0 h1 h2 h3 h4 h5
  go_enter Tryd.func75, Tryd.ntmps75
  go_wp2_with fail
  go_loopw [7] (fun i wr => ∃ k : Nat, i = .int .i64 k ∧ (k = 0 ∨ (k = 1 ∧ large x.2.1 x.2.2 = false) ∨ (k = 2 ∧ large x.2.1 x.2.2 = false ∧ large y.2.1 y.2.2 = false)) ∧ Below w.heap.size w wr) (fun i _ => 2 - (intOf i).toNat)
  case atStart => exact ⟨0, rfl, .inl rfl, Below.refl _ _⟩
  case round =>
    obtain ⟨k, rfl, hk, hB⟩ := hrel
    rcases hk with rfl | ⟨rfl, hl1⟩ | ⟨rfl, hl1, hl2⟩
    · obtain ⟨⟨c0, c1, c2⟩, _⟩ := HC.out _ hB
      have hst := (Below.refl wr.heap.size wr).alloc (Nat.le_refl _) (.cells #[.bool sx, .slice pa ka ca, .slice pb kb cb] 24)
      have HV := hid (Var3.alloc wr (x := .bool sx) (y := .slice pa ka ca) (z := .slice pb kb cb) 24 trivial trivial trivial)
      have HL := hid (Large_any _ x (wr.alloc (.cells #[.bool sx, .slice pa ka ca, .slice pb kb cb] 24)) (HX.out.below (hB.trans (hst.mono hB.size))))
      have HB := hid (hB.trans (hst.mono hB.size))
      clear hst hB
      go_upto_region 4 with fail
      clear c0 c1 c2
      generalize wr.alloc (.cells #[.bool sx, .slice pa ka ca, .slice pb kb cb] 24) = W1 at *
      obtain ⟨a0, a1, a2, _⟩ := HV.out.cells
      cases hl : large x.2.1 x.2.2
      case true =>
        rw [hl] at HL
        go_wp2_with fail
        refine HL.out.mono ?_
        rintro e w2 ⟨rfl, hst⟩
        have HZ := hid (HB.out.trans (hst.mono HB.out.size))
        clear hst HL HV HB a0 a1 a2
        go_wp2_with fail
        go_ret
        exact ⟨by simp [hl], HZ.out⟩
      case false =>
        rw [hl] at HL
        go_wp2_with fail
        refine HL.out.mono ?_
        rintro e w2 ⟨rfl, hst⟩
        have HZ := hid (HB.out.trans (hst.mono HB.out.size))
        clear hst HL HV HB a0 a1 a2
        go_wp2_with fail
        go_roundw
        case rel => exact ⟨0+1, by go_num, .inr (.inl ⟨rfl, hl⟩), HZ.out⟩
        case measure => simp [intOf]
    · obtain ⟨_, ⟨c0, c1, c2⟩⟩ := HC.out _ hB
      have hst := (Below.refl wr.heap.size wr).alloc (Nat.le_refl _) (.cells #[.bool sy, .slice pc kc cc, .slice pd kd cd] 24)
      have HV := hid (Var3.alloc wr (x := .bool sy) (y := .slice pc kc cc) (z := .slice pd kd cd) 24 trivial trivial trivial)
      have HL := hid (Large_any _ y (wr.alloc (.cells #[.bool sy, .slice pc kc cc, .slice pd kd cd] 24)) (HY.out.below (hB.trans (hst.mono hB.size))))
      have HB := hid (hB.trans (hst.mono hB.size))
      clear hst hB
      go_upto_region 4 with fail
      clear c0 c1 c2
      generalize wr.alloc (.cells #[.bool sy, .slice pc kc cc, .slice pd kd cd] 24) = W1 at *
      obtain ⟨a0, a1, a2, _⟩ := HV.out.cells
      cases hl : large y.2.1 y.2.2
      case true =>
        rw [hl] at HL
        go_wp2_with fail
        refine HL.out.mono ?_
        rintro e w2 ⟨rfl, hst⟩
        have HZ := hid (HB.out.trans (hst.mono HB.out.size))
        clear hst HL HV HB a0 a1 a2
        go_wp2_with fail
        go_ret
        exact ⟨by simp [hl1, hl], HZ.out⟩
      case false =>
        rw [hl] at HL
        go_wp2_with fail
        refine HL.out.mono ?_
        rintro e w2 ⟨rfl, hst⟩
        have HZ := hid (HB.out.trans (hst.mono HB.out.size))
        clear hst HL HV HB a0 a1 a2
        go_wp2_with fail
        go_roundw
        case rel => exact ⟨1+1, by go_num, .inr (.inr ⟨rfl, hl1, hl⟩), HZ.out⟩
        case measure => simp [intOf]
    · go_wp2_with fail
      go_ret
      exact ⟨by simp [hl1, hl2], hB⟩

def IsFr (t : Bool × Nat × Nat) : Prop := ∃ s n d, 0 < d ∧ t = frac s n d
theorem IsFr.pos {t : Bool × Nat × Nat} (h : IsFr t) : 0 < t.2.2 := by obtain ⟨s, n, d, hd, rfl⟩ := h; exact frac_pos hd
theorem IsFr.zs {t : Bool × Nat × Nat} (h : IsFr t) : t.2.1 = 0 → t.1 = false := by obtain ⟨s, n, d, hd, rfl⟩ := h; exact frac_zero_sign hd
theorem IsFr.fr (a : Bool × Nat × Nat) : IsFr (fr a) := ⟨_, _, _, den1_pos _, rfl⟩
theorem IsFr.sub {a b : Bool × Nat × Nat} (ha : 0 < a.2.2) (hb : 0 < b.2.2) : IsFr (fsub a b) := by
  have hd : 0 < a.2.2 * b.2.2 := Nat.mul_pos ha hb
  rcases fsub_ways a b with ⟨_, e⟩ | ⟨_, _, e⟩ | ⟨_, _, e⟩
  all_goals exact ⟨_, _, _, hd, e⟩
theorem IsFr.add {a b : Bool × Nat × Nat} (ha : 0 < a.2.2) (hb : 0 < b.2.2) : IsFr (fadd a b) := by
  have hd : 0 < a.2.2 * b.2.2 := Nat.mul_pos ha hb
  by_cases h : a.1 = b.1
  · exact ⟨_, _, _, hd, if_pos h⟩
  · by_cases h2 : a.2.1 * b.2.2 < b.2.1 * a.2.2
    · exact ⟨_, _, _, hd, (if_neg h).trans (if_pos h2)⟩
    · exact ⟨_, _, _, hd, (if_neg h).trans (if_neg h2)⟩
theorem IsFr.mul {a b : Bool × Nat × Nat} (ha : 0 < a.2.2) (hb : 0 < b.2.2) : IsFr (fmul a b) := ⟨_, _, _, Nat.mul_pos ha hb, rfl⟩
theorem ncode_one {n d n' d' : Nat} {c : Int} {t : Bool × Nat × Nat} (h : (large n d || large n' d') = true) : ncode n d n' d' c t = 1 := by
  unfold ncode ucode bcode
  cases h1 : large n d <;> cases h2 : large n' d' <;> simp [h1, h2] at h ⊢
theorem ncode_ok {n d n' d' : Nat} {c : Int} {t : Bool × Nat × Nat} (h : (large n d || large n' d') = false) : ncode n d n' d' c t = if c ≠ 0 then c else if big t.2.1 t.2.2 then 1 else 0 := by
  unfold ncode ucode bcode
  cases h1 : large n d <;> cases h2 : large n' d' <;> simp [h1, h2] at h ⊢

theorem rAdd_ret {W : World} {B : Nat} {x y z ev : Value} {tm : Array Value} {R : Ending → World → Prop} (h2 : tm[4]?.getD undef = .pointer (some ⟨B, 0, none⟩)) (h3 : tm[5]?.getD undef = ev) (hV : Var3 W B x y z)
    (hR : R (.returned (.tuple #[.agg #[x, y, z], ev])) W) : bodyPost Tryd.prog Tryd.f36 R .ret { tmps := tm, defers := [] } W := by
  obtain ⟨c0, c1, c2, _, _, _⟩ := hV.cells
  exact bodyPost_ret (v := .tuple #[.agg #[x, y, z], ev]) (by simp [results, Tryd.results36, go_sem, h2, h3, c0, c1, c2]) rfl hR

set_option maxHeartbeats 8000000 in
set_option maxRecDepth 100000 in
theorem rAdd_u (vx vy : Value) (x y : Bool × Nat × Nat) (w : World) (hx : NRep w vx x) (hy : NRep w vy y) :
    Calls Tryd.prog 36 #[vx, vy] w fun e w' => Below w.heap.size w w' ∧ URF w' e (addc x y) (addt x y) := by
  have HX := hid hx
  have HY := hid hy
  obtain ⟨_, _, rfl, ⟨p1, k1, c1, rfl, _⟩, ⟨p2, k2, c2, rfl, _⟩⟩ := hx
  obtain ⟨_, _, rfl, ⟨p3, k3, c3, rfl, _⟩, ⟨p4, k4, c4, rfl, _⟩⟩ := hy
  obtain ⟨s1, hsx⟩ : ∃ s, s = x.1 := ⟨_, rfl⟩
  obtain ⟨s2, hsy⟩ : ∃ s, s = y.1 := ⟨_, rfl⟩
  rw [← hsx] at HX ⊢
  rw [← hsy] at HY ⊢
  clear hsx hsy
  obtain ⟨cc, hcc⟩ : ∃ c, c = addc x y := ⟨_, rfl⟩
  have htt : addt x y = resT cc (fadd (fr x) (fr y)) := by rw [hcc]; rfl
  rw [htt, ← hcc]
  obtain ⟨rt, hrt⟩ : ∃ r, r = resT cc (fadd (fr x) (fr y)) := ⟨_, rfl⟩
  rw [← hrt]
  have HC := hid (And.intro hcc hrt)
  clear hcc htt hrt
  go_enter Tryd.func36, Tryd.ntmps36
  go_upto_region 1 with fail
  have hVa : Var3 (w.alloc (.cells #[.bool s1, .slice p1 k1 c1, .slice p2 k2 c2] 24)) w.heap.size (.bool s1) (.slice p1 k1 c1) (.slice p2 k2 c2) := Var3.alloc w 24 trivial trivial trivial
  have hVb := Var3.alloc2 w (.cells #[.bool s1, .slice p1 k1 c1, .slice p2 k2 c2] 24) (x := .bool s2) (y := .slice p3 k3 c3) (z := .slice p4 k4 c4) 24 trivial trivial trivial
  have hVr := Var3.alloc3 w (.cells #[.bool s1, .slice p1 k1 c1, .slice p2 k2 c2] 24) (.cells #[.bool s2, .slice p3 k3 c3, .slice p4 k4 c4] 24) (x := .bool false) (y := .slice none 0 0) (z := .slice none 0 0) 24 trivial trivial trivial
  have hB0 := below_alloc3 w (.cells #[.bool s1, .slice p1 k1 c1, .slice p2 k2 c2] 24) (.cells #[.bool s2, .slice p3 k3 c3, .slice p4 k4 c4] 24) (.cells #[.bool false, .slice none 0 0, .slice none 0 0] 24)
  have hVa' := (hVa.below ((Below.refl _ _).alloc (Nat.le_refl _) (.cells #[.bool s2, .slice p3 k3 c3, .slice p4 k4 c4] 24))).below ((Below.refl _ _).alloc (Nat.le_refl _) (.cells #[.bool false, .slice none 0 0, .slice none 0 0] 24))
  have hVb' := hVb.below ((Below.refl _ _).alloc (Nat.le_refl _) (.cells #[.bool false, .slice none 0 0, .slice none 0 0] 24))
  clear hVa hVb
  generalize hW0 : ((w.alloc (.cells #[.bool s1, .slice p1 k1 c1, .slice p2 k2 c2] 24)).alloc (.cells #[.bool s2, .slice p3 k3 c3, .slice p4 k4 c4] 24)).alloc (.cells #[.bool false, .slice none 0 0, .slice none 0 0] 24) = W0 at *
  clear hW0
  have hn2 : w.heap.size + 1 + 1 ≤ W0.heap.size := by obtain ⟨_, h0, _⟩ := hVr; exact Nat.le_of_lt (Array.getElem?_eq_some_iff.1 h0).1
  have HV := hid (And.intro (And.intro hVa' (And.intro hVb' hVr)) hB0)
  replace HX := hid (HX.out.below hB0)
  replace HY := hid (HY.out.below hB0)
  obtain ⟨x0, x1, x2, _⟩ := hVa'.cells
  obtain ⟨y0, y1, y2, _⟩ := hVb'.cells
  clear hVa' hVb' hVr hB0
  go_wp2_with fail
  have hal := (Below.refl W0.heap.size W0).alloc (Nat.le_refl _) (.cells #[.bool s1, .slice p1 k1 c1, .slice p2 k2 c2, .bool s2, .slice p3 k3 c3, .slice p4 k4 c4] 24)
  have HA := hid (anyLarge_any W0.heap.size s1 s2 p1 p2 p3 p4 k1 k2 k3 k4 c1 c2 c3 c4 x y (W0.alloc (.cells #[.bool s1, .slice p1 k1 c1, .slice p2 k2 c2, .bool s2, .slice p3 k3 c3, .slice p4 k4 c4] 24)) (by rw [World.size_alloc]; omega) (HX.out.below hal) (HY.out.below hal) (by simp only [World.cell?, heap_alloc_new]; rfl) (by simp only [World.cell?, heap_alloc_new]; rfl) (by simp only [World.cell?, heap_alloc_new]; rfl) (by simp only [World.cell?, heap_alloc_new]; rfl) (by simp only [World.cell?, heap_alloc_new]; rfl) (by simp only [World.cell?, heap_alloc_new]; rfl))
  refine HA.out.mono ?_
  rintro e w1 ⟨rfl, hst⟩
  have hst2 := hal.trans (hst.mono hal.size)
  clear HA hst hal x0 x1 x2 y0 y1 y2
  replace HX := hid (HX.out.below hst2)
  replace HY := hid (HY.out.below hst2)
  have hn3 : w.heap.size + 1 + 1 ≤ w1.heap.size := Nat.le_trans hn2 hst2.size
  have HP : Hid ((Var3 w1 w.heap.size (.bool s1) (.slice p1 k1 c1) (.slice p2 k2 c2) ∧ Var3 w1 (w.heap.size + 1) (.bool s2) (.slice p3 k3 c3) (.slice p4 k4 c4) ∧ Var3 w1 (w.heap.size + 1 + 1) (.bool false) (.slice none 0 0) (.slice none 0 0)) ∧ Below w.heap.size w w1) :=
    hid ⟨⟨HV.out.1.1.below hst2, HV.out.1.2.1.below hst2, HV.out.1.2.2.below hst2⟩, HV.out.2.trans (hst2.mono HV.out.2.size)⟩
  clear HV hst2 hn2
  generalize W0.heap.size = BS at *
  cases hl : (large x.2.1 x.2.2 || large y.2.1 y.2.2)
  case true =>
    have hc := HC.out.1
    unfold addc at hc
    rw [ncode_one hl] at hc
    subst hc
    have hr : rt = (false, 0, 0) := HC.out.2.trans (if_neg (by decide))
    subst hr
    clear hl HC HX HY
    obtain ⟨x0, x1, x2, y0, y1, y2⟩ := HP.out.1.2.2.cells
    go_wp2_with fail
    refine rAdd_ret rfl rfl (HP.out.1.2.2.store trivial trivial trivial) ⟨below_set3 HP.out.2 (by omega), ?_⟩
    exact ⟨_, _, _, _, _, _, _, rfl, hid ⟨_, _, rfl, Rep.nil, Rep.nil⟩⟩
  case false =>
    have hc := HC.out.1
    have hr := HC.out.2
    unfold addc at hc
    rw [ncode_ok hl, if_neg (by decide)] at hc
    obtain ⟨hl1, hl2⟩ := Bool.or_eq_false_iff.1 hl
    have hbx := fr_bd hl1
    have hby := fr_bd hl2
    obtain ⟨A, hA1, hA2⟩ : ∃ A : Nat, 128 ≤ A ∧ A ≤ 1000000 := ⟨128, by omega, by omega⟩
    have HO1 := hid (fun (W : World) (hW : Below w1.heap.size w1 W) => rOfF_any _ x W (HX.out.below hW) hl1)
    have HO2 := hid (fun (W : World) (hW : Below w1.heap.size w1 W) => rOfF_any _ y W (HY.out.below hW) hl2)
    have HOp := hid (fun (W : World) (v1 v2 : Value) (q1 : QNorm W v1 (fr x)) (q2 : QNorm W v2 (fr y)) => qopen (t := fadd (fr x) (fr y)) (rSum_any v1 v2 _ _ _ _ _ _ A W q1 q2 (lt_W_B6 hbx.1 hA1) (lt_W_B6 hbx.2 hA1) (lt_W_B6 hby.1 hA1) (lt_W_B6 hby.2 hA1) hA2 (IsFr.fr x).pos (IsFr.fr y).pos))
    have hif : IsFr (fadd (fr x) (fr y)) := IsFr.add (IsFr.fr x).pos (IsFr.fr y).pos
    have HDn := hid (fun (W : World) (v : Value) (q : QNorm W v (fadd (fr x) (fr y))) => Done_any v (fadd (fr x) (fr y)) W q hif.pos hif.zs)
    rw [← hc, ← hr] at HDn
    clear hc hr HC hl hl1 hl2 hbx hby hA1 hA2 hif
    obtain ⟨t, ht⟩ : ∃ t, t = fadd (fr x) (fr y) := ⟨_, rfl⟩
    rw [← ht] at HOp HDn
    clear ht
    have HS : Hid (∀ w', Below (w.heap.size + 1 + 1) w1 w' → (w'.cell? ⟨w.heap.size, 0, none⟩ = some (.bool s1) ∧ w'.cell? ⟨w.heap.size, 1, none⟩ = some (.slice p1 k1 c1) ∧ w'.cell? ⟨w.heap.size, 2, none⟩ = some (.slice p2 k2 c2) ∧ w'.cell? ⟨w.heap.size + 1, 0, none⟩ = some (.bool s2) ∧ w'.cell? ⟨w.heap.size + 1, 1, none⟩ = some (.slice p3 k3 c3) ∧ w'.cell? ⟨w.heap.size + 1, 2, none⟩ = some (.slice p4 k4 c4) ∧ Hid (Below (w.heap.size + 1 + 1) w1 w'))) :=
      hid fun w' hb => ⟨(bcellN hb _ _ (by omega)).trans HP.out.1.1.cells.1, (bcellN hb _ _ (by omega)).trans HP.out.1.1.cells.2.1, (bcellN hb _ _ (by omega)).trans HP.out.1.1.cells.2.2.1, (bcellN hb _ _ (by omega)).trans HP.out.1.2.1.cells.1, (bcellN hb _ _ (by omega)).trans HP.out.1.2.1.cells.2.1, (bcellN hb _ _ (by omega)).trans HP.out.1.2.1.cells.2.2.1, hid hb⟩
    go_upto_region 3 with fail
    go_region_held3 (fun w' => w'.cell? ⟨w.heap.size, 0, none⟩ = some (.bool s1) ∧ w'.cell? ⟨w.heap.size, 1, none⟩ = some (.slice p1 k1 c1) ∧ w'.cell? ⟨w.heap.size, 2, none⟩ = some (.slice p2 k2 c2) ∧ w'.cell? ⟨w.heap.size + 1, 0, none⟩ = some (.bool s2) ∧ w'.cell? ⟨w.heap.size + 1, 1, none⟩ = some (.slice p3 k3 c3) ∧ w'.cell? ⟨w.heap.size + 1, 2, none⟩ = some (.slice p4 k4 c4) ∧ Hid (Below (w.heap.size + 1 + 1) w1 w'))
      (first | exact HS.out _ (Below.refl _ _).drew | (exact HS.out _ (by assumption)) | exact HS.out _ (below_set3 (by assumption) (Nat.le_refl _)))
      (first
        | (go_at_call_of 21 k1; refine (HO1.out _ (by first | assumption | exact (Below.refl _ _).drew)).mono ?_; rintro e wa ⟨s5, p5, k5, c5, p6, k6, c6, rfl, hQ1, hBa⟩; have hKa := held_any (by first | assumption | exact (Below.refl _ _).drew) hBa; have hKa2 := below_pre hKa hn3)
        | (go_at_call_of 21 k3; refine (HO2.out _ (by first | assumption | exact (Below.refl _ _).drew)).mono ?_; rintro e wb ⟨s7, p7, k7, c7, p8, k8, c8, rfl, hQ2, hBb⟩; have hKb := held_any (by first | assumption | exact (Below.refl _ _).drew) hBb; have hKb2 := below_pre hKb hn3)
        | (go_at_call 77; (first | refine (HOp.out _ _ _ (hQ1.out.below hBb) hQ2.out).mono ?_ | refine (HOp.out _ _ _ hQ1.out (hQ2.out.below hBa)).mono ?_); rintro e wc ⟨s9, p9, k9, c9, p10, k10, c10, rfl, hQ3, hBc⟩; have hKc := held_any (by first | assumption | exact (Below.refl _ _).drew) hBc; have hKc2 := below_pre hKc hn3)
        | (go_at_call 76; refine (HDn.out _ _ hQ3.out).mono ?_; rintro e wd ⟨hBd, sg, pa, ka, ca, pb, kb, cb, rfl, HF⟩; have hKd := held_any (by first | assumption | exact (Below.refl _ _).drew) hBd; have hKd2 := below_pre hKd hn3; obtain ⟨x0, x1, x2, y0, y1, y2⟩ := (HP.out.1.2.2.below hKd).cells))
    all_goals
      rename_i hHeld
      clear hHeld
      go_wp2_with fail
      exact rAdd_ret rfl rfl ((HP.out.1.2.2.below hKd).store trivial trivial trivial) ⟨below_set3 (HP.out.2.trans (hKd.mono HP.out.2.size)) (by omega), ⟨_, _, _, _, _, _, _, rfl, hid (HF.out.store3 (HP.out.1.2.2.below hKd) _ _ _)⟩⟩

theorem rSub_ret {W : World} {B : Nat} {x y z ev : Value} {tm : Array Value} {R : Ending → World → Prop} (h2 : tm[4]?.getD undef = .pointer (some ⟨B, 0, none⟩)) (h3 : tm[5]?.getD undef = ev) (hV : Var3 W B x y z)
    (hR : R (.returned (.tuple #[.agg #[x, y, z], ev])) W) : bodyPost Tryd.prog Tryd.f37 R .ret { tmps := tm, defers := [] } W := by
  obtain ⟨c0, c1, c2, _, _, _⟩ := hV.cells
  exact bodyPost_ret (v := .tuple #[.agg #[x, y, z], ev]) (by simp [results, Tryd.results37, go_sem, h2, h3, c0, c1, c2]) rfl hR

set_option maxHeartbeats 8000000 in
set_option maxRecDepth 100000 in
theorem rSub_u (vx vy : Value) (x y : Bool × Nat × Nat) (w : World) (hx : NRep w vx x) (hy : NRep w vy y) :
    Calls Tryd.prog 37 #[vx, vy] w fun e w' => Below w.heap.size w w' ∧ URF w' e (subc x y) (subt x y) := by
  have HX := hid hx
  have HY := hid hy
  obtain ⟨_, _, rfl, ⟨p1, k1, c1, rfl, _⟩, ⟨p2, k2, c2, rfl, _⟩⟩ := hx
  obtain ⟨_, _, rfl, ⟨p3, k3, c3, rfl, _⟩, ⟨p4, k4, c4, rfl, _⟩⟩ := hy
  obtain ⟨s1, hsx⟩ : ∃ s, s = x.1 := ⟨_, rfl⟩
  obtain ⟨s2, hsy⟩ : ∃ s, s = y.1 := ⟨_, rfl⟩
  rw [← hsx] at HX ⊢
  rw [← hsy] at HY ⊢
  clear hsx hsy
  obtain ⟨cc, hcc⟩ : ∃ c, c = subc x y := ⟨_, rfl⟩
  have htt : subt x y = resT cc (fsub (fr x) (fr y)) := by rw [hcc]; rfl
  rw [htt, ← hcc]
  obtain ⟨rt, hrt⟩ : ∃ r, r = resT cc (fsub (fr x) (fr y)) := ⟨_, rfl⟩
  rw [← hrt]
  have HC := hid (And.intro hcc hrt)
  clear hcc htt hrt
  go_enter Tryd.func37, Tryd.ntmps37
  go_upto_region 1 with fail
  have hVa : Var3 (w.alloc (.cells #[.bool s1, .slice p1 k1 c1, .slice p2 k2 c2] 24)) w.heap.size (.bool s1) (.slice p1 k1 c1) (.slice p2 k2 c2) := Var3.alloc w 24 trivial trivial trivial
  have hVb := Var3.alloc2 w (.cells #[.bool s1, .slice p1 k1 c1, .slice p2 k2 c2] 24) (x := .bool s2) (y := .slice p3 k3 c3) (z := .slice p4 k4 c4) 24 trivial trivial trivial
  have hVr := Var3.alloc3 w (.cells #[.bool s1, .slice p1 k1 c1, .slice p2 k2 c2] 24) (.cells #[.bool s2, .slice p3 k3 c3, .slice p4 k4 c4] 24) (x := .bool false) (y := .slice none 0 0) (z := .slice none 0 0) 24 trivial trivial trivial
  have hB0 := below_alloc3 w (.cells #[.bool s1, .slice p1 k1 c1, .slice p2 k2 c2] 24) (.cells #[.bool s2, .slice p3 k3 c3, .slice p4 k4 c4] 24) (.cells #[.bool false, .slice none 0 0, .slice none 0 0] 24)
  have hVa' := (hVa.below ((Below.refl _ _).alloc (Nat.le_refl _) (.cells #[.bool s2, .slice p3 k3 c3, .slice p4 k4 c4] 24))).below ((Below.refl _ _).alloc (Nat.le_refl _) (.cells #[.bool false, .slice none 0 0, .slice none 0 0] 24))
  have hVb' := hVb.below ((Below.refl _ _).alloc (Nat.le_refl _) (.cells #[.bool false, .slice none 0 0, .slice none 0 0] 24))
  clear hVa hVb
  generalize hW0 : ((w.alloc (.cells #[.bool s1, .slice p1 k1 c1, .slice p2 k2 c2] 24)).alloc (.cells #[.bool s2, .slice p3 k3 c3, .slice p4 k4 c4] 24)).alloc (.cells #[.bool false, .slice none 0 0, .slice none 0 0] 24) = W0 at *
  clear hW0
  have hn2 : w.heap.size + 1 + 1 ≤ W0.heap.size := by obtain ⟨_, h0, _⟩ := hVr; exact Nat.le_of_lt (Array.getElem?_eq_some_iff.1 h0).1
  have HV := hid (And.intro (And.intro hVa' (And.intro hVb' hVr)) hB0)
  replace HX := hid (HX.out.below hB0)
  replace HY := hid (HY.out.below hB0)
  obtain ⟨x0, x1, x2, _⟩ := hVa'.cells
  obtain ⟨y0, y1, y2, _⟩ := hVb'.cells
  clear hVa' hVb' hVr hB0
  go_wp2_with fail
  have hal := (Below.refl W0.heap.size W0).alloc (Nat.le_refl _) (.cells #[.bool s1, .slice p1 k1 c1, .slice p2 k2 c2, .bool s2, .slice p3 k3 c3, .slice p4 k4 c4] 24)
  have HA := hid (anyLarge_any W0.heap.size s1 s2 p1 p2 p3 p4 k1 k2 k3 k4 c1 c2 c3 c4 x y (W0.alloc (.cells #[.bool s1, .slice p1 k1 c1, .slice p2 k2 c2, .bool s2, .slice p3 k3 c3, .slice p4 k4 c4] 24)) (by rw [World.size_alloc]; omega) (HX.out.below hal) (HY.out.below hal) (by simp only [World.cell?, heap_alloc_new]; rfl) (by simp only [World.cell?, heap_alloc_new]; rfl) (by simp only [World.cell?, heap_alloc_new]; rfl) (by simp only [World.cell?, heap_alloc_new]; rfl) (by simp only [World.cell?, heap_alloc_new]; rfl) (by simp only [World.cell?, heap_alloc_new]; rfl))
  refine HA.out.mono ?_
  rintro e w1 ⟨rfl, hst⟩
  have hst2 := hal.trans (hst.mono hal.size)
  clear HA hst hal x0 x1 x2 y0 y1 y2
  replace HX := hid (HX.out.below hst2)
  replace HY := hid (HY.out.below hst2)
  have hn3 : w.heap.size + 1 + 1 ≤ w1.heap.size := Nat.le_trans hn2 hst2.size
  have HP : Hid ((Var3 w1 w.heap.size (.bool s1) (.slice p1 k1 c1) (.slice p2 k2 c2) ∧ Var3 w1 (w.heap.size + 1) (.bool s2) (.slice p3 k3 c3) (.slice p4 k4 c4) ∧ Var3 w1 (w.heap.size + 1 + 1) (.bool false) (.slice none 0 0) (.slice none 0 0)) ∧ Below w.heap.size w w1) :=
    hid ⟨⟨HV.out.1.1.below hst2, HV.out.1.2.1.below hst2, HV.out.1.2.2.below hst2⟩, HV.out.2.trans (hst2.mono HV.out.2.size)⟩
  clear HV hst2 hn2
  generalize W0.heap.size = BS at *
  cases hl : (large x.2.1 x.2.2 || large y.2.1 y.2.2)
  case true =>
    have hc := HC.out.1
    unfold subc at hc
    rw [ncode_one hl] at hc
    subst hc
    have hr : rt = (false, 0, 0) := HC.out.2.trans (if_neg (by decide))
    subst hr
    clear hl HC HX HY
    obtain ⟨x0, x1, x2, y0, y1, y2⟩ := HP.out.1.2.2.cells
    go_wp2_with fail
    refine rSub_ret rfl rfl (HP.out.1.2.2.store trivial trivial trivial) ⟨below_set3 HP.out.2 (by omega), ?_⟩
    exact ⟨_, _, _, _, _, _, _, rfl, hid ⟨_, _, rfl, Rep.nil, Rep.nil⟩⟩
  case false =>
    have hc := HC.out.1
    have hr := HC.out.2
    unfold subc at hc
    rw [ncode_ok hl, if_neg (by decide)] at hc
    obtain ⟨hl1, hl2⟩ := Bool.or_eq_false_iff.1 hl
    have hbx := fr_bd hl1
    have hby := fr_bd hl2
    obtain ⟨A, hA1, hA2⟩ : ∃ A : Nat, 128 ≤ A ∧ A ≤ 1000000 := ⟨128, by omega, by omega⟩
    have HO1 := hid (fun (W : World) (hW : Below w1.heap.size w1 W) => rOfF_any _ x W (HX.out.below hW) hl1)
    have HO2 := hid (fun (W : World) (hW : Below w1.heap.size w1 W) => rOfF_any _ y W (HY.out.below hW) hl2)
    have HOp := hid (fun (W : World) (v1 v2 : Value) (q1 : QNorm W v1 (fr x)) (q2 : QNorm W v2 (fr y)) => qopen (t := fsub (fr x) (fr y)) (rDiff_any v1 v2 (fr x) (fr y) A W q1 q2 (lt_W_B6 hbx.1 hA1) (lt_W_B6 hbx.2 hA1) (lt_W_B6 hby.1 hA1) (lt_W_B6 hby.2 hA1) hA2 (IsFr.fr x).pos (IsFr.fr y).pos))
    have hif : IsFr (fsub (fr x) (fr y)) := IsFr.sub (IsFr.fr x).pos (IsFr.fr y).pos
    have HDn := hid (fun (W : World) (v : Value) (q : QNorm W v (fsub (fr x) (fr y))) => Done_any v (fsub (fr x) (fr y)) W q hif.pos hif.zs)
    rw [← hc, ← hr] at HDn
    clear hc hr HC hl hl1 hl2 hbx hby hA1 hA2 hif
    obtain ⟨t, ht⟩ : ∃ t, t = fsub (fr x) (fr y) := ⟨_, rfl⟩
    rw [← ht] at HOp HDn
    clear ht
    have HS : Hid (∀ w', Below (w.heap.size + 1 + 1) w1 w' → (w'.cell? ⟨w.heap.size, 0, none⟩ = some (.bool s1) ∧ w'.cell? ⟨w.heap.size, 1, none⟩ = some (.slice p1 k1 c1) ∧ w'.cell? ⟨w.heap.size, 2, none⟩ = some (.slice p2 k2 c2) ∧ w'.cell? ⟨w.heap.size + 1, 0, none⟩ = some (.bool s2) ∧ w'.cell? ⟨w.heap.size + 1, 1, none⟩ = some (.slice p3 k3 c3) ∧ w'.cell? ⟨w.heap.size + 1, 2, none⟩ = some (.slice p4 k4 c4) ∧ Hid (Below (w.heap.size + 1 + 1) w1 w'))) :=
      hid fun w' hb => ⟨(bcellN hb _ _ (by omega)).trans HP.out.1.1.cells.1, (bcellN hb _ _ (by omega)).trans HP.out.1.1.cells.2.1, (bcellN hb _ _ (by omega)).trans HP.out.1.1.cells.2.2.1, (bcellN hb _ _ (by omega)).trans HP.out.1.2.1.cells.1, (bcellN hb _ _ (by omega)).trans HP.out.1.2.1.cells.2.1, (bcellN hb _ _ (by omega)).trans HP.out.1.2.1.cells.2.2.1, hid hb⟩
    go_upto_region 3 with fail
    go_region_held3 (fun w' => w'.cell? ⟨w.heap.size, 0, none⟩ = some (.bool s1) ∧ w'.cell? ⟨w.heap.size, 1, none⟩ = some (.slice p1 k1 c1) ∧ w'.cell? ⟨w.heap.size, 2, none⟩ = some (.slice p2 k2 c2) ∧ w'.cell? ⟨w.heap.size + 1, 0, none⟩ = some (.bool s2) ∧ w'.cell? ⟨w.heap.size + 1, 1, none⟩ = some (.slice p3 k3 c3) ∧ w'.cell? ⟨w.heap.size + 1, 2, none⟩ = some (.slice p4 k4 c4) ∧ Hid (Below (w.heap.size + 1 + 1) w1 w'))
      (first | exact HS.out _ (Below.refl _ _).drew | (exact HS.out _ (by assumption)) | exact HS.out _ (below_set3 (by assumption) (Nat.le_refl _)))
      (first
        | (go_at_call_of 21 k1; refine (HO1.out _ (by first | assumption | exact (Below.refl _ _).drew)).mono ?_; rintro e wa ⟨s5, p5, k5, c5, p6, k6, c6, rfl, hQ1, hBa⟩; have hKa := held_any (by first | assumption | exact (Below.refl _ _).drew) hBa; have hKa2 := below_pre hKa hn3)
        | (go_at_call_of 21 k3; refine (HO2.out _ (by first | assumption | exact (Below.refl _ _).drew)).mono ?_; rintro e wb ⟨s7, p7, k7, c7, p8, k8, c8, rfl, hQ2, hBb⟩; have hKb := held_any (by first | assumption | exact (Below.refl _ _).drew) hBb; have hKb2 := below_pre hKb hn3)
        | (go_at_call 73; (first | refine (HOp.out _ _ _ (hQ1.out.below hBb) hQ2.out).mono ?_ | refine (HOp.out _ _ _ hQ1.out (hQ2.out.below hBa)).mono ?_); rintro e wc ⟨s9, p9, k9, c9, p10, k10, c10, rfl, hQ3, hBc⟩; have hKc := held_any (by first | assumption | exact (Below.refl _ _).drew) hBc; have hKc2 := below_pre hKc hn3)
        | (go_at_call 76; refine (HDn.out _ _ hQ3.out).mono ?_; rintro e wd ⟨hBd, sg, pa, ka, ca, pb, kb, cb, rfl, HF⟩; have hKd := held_any (by first | assumption | exact (Below.refl _ _).drew) hBd; have hKd2 := below_pre hKd hn3; obtain ⟨x0, x1, x2, y0, y1, y2⟩ := (HP.out.1.2.2.below hKd).cells))
    all_goals
      rename_i hHeld
      clear hHeld
      go_wp2_with fail
      exact rSub_ret rfl rfl ((HP.out.1.2.2.below hKd).store trivial trivial trivial) ⟨below_set3 (HP.out.2.trans (hKd.mono HP.out.2.size)) (by omega), ⟨_, _, _, _, _, _, _, rfl, hid (HF.out.store3 (HP.out.1.2.2.below hKd) _ _ _)⟩⟩

theorem rMul_ret {W : World} {B : Nat} {x y z ev : Value} {tm : Array Value} {R : Ending → World → Prop} (h2 : tm[4]?.getD undef = .pointer (some ⟨B, 0, none⟩)) (h3 : tm[5]?.getD undef = ev) (hV : Var3 W B x y z)
    (hR : R (.returned (.tuple #[.agg #[x, y, z], ev])) W) : bodyPost Tryd.prog Tryd.f40 R .ret { tmps := tm, defers := [] } W := by
  obtain ⟨c0, c1, c2, _, _, _⟩ := hV.cells
  exact bodyPost_ret (v := .tuple #[.agg #[x, y, z], ev]) (by simp [results, Tryd.results40, go_sem, h2, h3, c0, c1, c2]) rfl hR

set_option maxHeartbeats 8000000 in
set_option maxRecDepth 100000 in
theorem rMul_u (vx vy : Value) (x y : Bool × Nat × Nat) (w : World) (hx : NRep w vx x) (hy : NRep w vy y) :
    Calls Tryd.prog 40 #[vx, vy] w fun e w' => Below w.heap.size w w' ∧ URF w' e (mulc x y) (mult x y) := by
  have HX := hid hx
  have HY := hid hy
  obtain ⟨_, _, rfl, ⟨p1, k1, c1, rfl, _⟩, ⟨p2, k2, c2, rfl, _⟩⟩ := hx
  obtain ⟨_, _, rfl, ⟨p3, k3, c3, rfl, _⟩, ⟨p4, k4, c4, rfl, _⟩⟩ := hy
  obtain ⟨s1, hsx⟩ : ∃ s, s = x.1 := ⟨_, rfl⟩
  obtain ⟨s2, hsy⟩ : ∃ s, s = y.1 := ⟨_, rfl⟩
  rw [← hsx] at HX ⊢
  rw [← hsy] at HY ⊢
  clear hsx hsy
  obtain ⟨cc, hcc⟩ : ∃ c, c = mulc x y := ⟨_, rfl⟩
  have htt : mult x y = resT cc (fmul (fr x) (fr y)) := by rw [hcc]; rfl
  rw [htt, ← hcc]
  obtain ⟨rt, hrt⟩ : ∃ r, r = resT cc (fmul (fr x) (fr y)) := ⟨_, rfl⟩
  rw [← hrt]
  have HC := hid (And.intro hcc hrt)
  clear hcc htt hrt
  go_enter Tryd.func40, Tryd.ntmps40
  go_upto_region 1 with fail
  have hVa : Var3 (w.alloc (.cells #[.bool s1, .slice p1 k1 c1, .slice p2 k2 c2] 24)) w.heap.size (.bool s1) (.slice p1 k1 c1) (.slice p2 k2 c2) := Var3.alloc w 24 trivial trivial trivial
  have hVb := Var3.alloc2 w (.cells #[.bool s1, .slice p1 k1 c1, .slice p2 k2 c2] 24) (x := .bool s2) (y := .slice p3 k3 c3) (z := .slice p4 k4 c4) 24 trivial trivial trivial
  have hVr := Var3.alloc3 w (.cells #[.bool s1, .slice p1 k1 c1, .slice p2 k2 c2] 24) (.cells #[.bool s2, .slice p3 k3 c3, .slice p4 k4 c4] 24) (x := .bool false) (y := .slice none 0 0) (z := .slice none 0 0) 24 trivial trivial trivial
  have hB0 := below_alloc3 w (.cells #[.bool s1, .slice p1 k1 c1, .slice p2 k2 c2] 24) (.cells #[.bool s2, .slice p3 k3 c3, .slice p4 k4 c4] 24) (.cells #[.bool false, .slice none 0 0, .slice none 0 0] 24)
  have hVa' := (hVa.below ((Below.refl _ _).alloc (Nat.le_refl _) (.cells #[.bool s2, .slice p3 k3 c3, .slice p4 k4 c4] 24))).below ((Below.refl _ _).alloc (Nat.le_refl _) (.cells #[.bool false, .slice none 0 0, .slice none 0 0] 24))
  have hVb' := hVb.below ((Below.refl _ _).alloc (Nat.le_refl _) (.cells #[.bool false, .slice none 0 0, .slice none 0 0] 24))
  clear hVa hVb
  generalize hW0 : ((w.alloc (.cells #[.bool s1, .slice p1 k1 c1, .slice p2 k2 c2] 24)).alloc (.cells #[.bool s2, .slice p3 k3 c3, .slice p4 k4 c4] 24)).alloc (.cells #[.bool false, .slice none 0 0, .slice none 0 0] 24) = W0 at *
  clear hW0
  have hn2 : w.heap.size + 1 + 1 ≤ W0.heap.size := by obtain ⟨_, h0, _⟩ := hVr; exact Nat.le_of_lt (Array.getElem?_eq_some_iff.1 h0).1
  have HV := hid (And.intro (And.intro hVa' (And.intro hVb' hVr)) hB0)
  replace HX := hid (HX.out.below hB0)
  replace HY := hid (HY.out.below hB0)
  obtain ⟨x0, x1, x2, _⟩ := hVa'.cells
  obtain ⟨y0, y1, y2, _⟩ := hVb'.cells
  clear hVa' hVb' hVr hB0
  go_wp2_with fail
  have hal := (Below.refl W0.heap.size W0).alloc (Nat.le_refl _) (.cells #[.bool s1, .slice p1 k1 c1, .slice p2 k2 c2, .bool s2, .slice p3 k3 c3, .slice p4 k4 c4] 24)
  have HA := hid (anyLarge_any W0.heap.size s1 s2 p1 p2 p3 p4 k1 k2 k3 k4 c1 c2 c3 c4 x y (W0.alloc (.cells #[.bool s1, .slice p1 k1 c1, .slice p2 k2 c2, .bool s2, .slice p3 k3 c3, .slice p4 k4 c4] 24)) (by rw [World.size_alloc]; omega) (HX.out.below hal) (HY.out.below hal) (by simp only [World.cell?, heap_alloc_new]; rfl) (by simp only [World.cell?, heap_alloc_new]; rfl) (by simp only [World.cell?, heap_alloc_new]; rfl) (by simp only [World.cell?, heap_alloc_new]; rfl) (by simp only [World.cell?, heap_alloc_new]; rfl) (by simp only [World.cell?, heap_alloc_new]; rfl))
  refine HA.out.mono ?_
  rintro e w1 ⟨rfl, hst⟩
  have hst2 := hal.trans (hst.mono hal.size)
  clear HA hst hal x0 x1 x2 y0 y1 y2
  replace HX := hid (HX.out.below hst2)
  replace HY := hid (HY.out.below hst2)
  have hn3 : w.heap.size + 1 + 1 ≤ w1.heap.size := Nat.le_trans hn2 hst2.size
  have HP : Hid ((Var3 w1 w.heap.size (.bool s1) (.slice p1 k1 c1) (.slice p2 k2 c2) ∧ Var3 w1 (w.heap.size + 1) (.bool s2) (.slice p3 k3 c3) (.slice p4 k4 c4) ∧ Var3 w1 (w.heap.size + 1 + 1) (.bool false) (.slice none 0 0) (.slice none 0 0)) ∧ Below w.heap.size w w1) :=
    hid ⟨⟨HV.out.1.1.below hst2, HV.out.1.2.1.below hst2, HV.out.1.2.2.below hst2⟩, HV.out.2.trans (hst2.mono HV.out.2.size)⟩
  clear HV hst2 hn2
  generalize W0.heap.size = BS at *
  cases hl : (large x.2.1 x.2.2 || large y.2.1 y.2.2)
  case true =>
    have hc := HC.out.1
    unfold mulc at hc
    rw [ncode_one hl] at hc
    subst hc
    have hr : rt = (false, 0, 0) := HC.out.2.trans (if_neg (by decide))
    subst hr
    clear hl HC HX HY
    obtain ⟨x0, x1, x2, y0, y1, y2⟩ := HP.out.1.2.2.cells
    go_wp2_with fail
    refine rMul_ret rfl rfl (HP.out.1.2.2.store trivial trivial trivial) ⟨below_set3 HP.out.2 (by omega), ?_⟩
    exact ⟨_, _, _, _, _, _, _, rfl, hid ⟨_, _, rfl, Rep.nil, Rep.nil⟩⟩
  case false =>
    have hc := HC.out.1
    have hr := HC.out.2
    unfold mulc at hc
    rw [ncode_ok hl, if_neg (by decide)] at hc
    obtain ⟨hl1, hl2⟩ := Bool.or_eq_false_iff.1 hl
    have hbx := fr_bd hl1
    have hby := fr_bd hl2
    obtain ⟨A, hA1, hA2⟩ : ∃ A : Nat, 128 ≤ A ∧ A ≤ 1000000 := ⟨128, by omega, by omega⟩
    have HO1 := hid (fun (W : World) (hW : Below w1.heap.size w1 W) => rOfF_any _ x W (HX.out.below hW) hl1)
    have HO2 := hid (fun (W : World) (hW : Below w1.heap.size w1 W) => rOfF_any _ y W (HY.out.below hW) hl2)
    have HOp := hid (fun (W : World) (v1 v2 : Value) (q1 : QNorm W v1 (fr x)) (q2 : QNorm W v2 (fr y)) => qopen (t := fmul (fr x) (fr y)) (rProd_any v1 v2 (fr x) (fr y) A W q1 q2 (lt_W_B6 hbx.1 hA1) (lt_W_B6 hbx.2 hA1) (lt_W_B6 hby.1 hA1) (lt_W_B6 hby.2 hA1) hA2 (IsFr.fr x).pos (IsFr.fr y).pos))
    have hif : IsFr (fmul (fr x) (fr y)) := IsFr.mul (IsFr.fr x).pos (IsFr.fr y).pos
    have HDn := hid (fun (W : World) (v : Value) (q : QNorm W v (fmul (fr x) (fr y))) => Done_any v (fmul (fr x) (fr y)) W q hif.pos hif.zs)
    rw [← hc, ← hr] at HDn
    clear hc hr HC hl hl1 hl2 hbx hby hA1 hA2 hif
    obtain ⟨t, ht⟩ : ∃ t, t = fmul (fr x) (fr y) := ⟨_, rfl⟩
    rw [← ht] at HOp HDn
    clear ht
    have HS : Hid (∀ w', Below (w.heap.size + 1 + 1) w1 w' → (w'.cell? ⟨w.heap.size, 0, none⟩ = some (.bool s1) ∧ w'.cell? ⟨w.heap.size, 1, none⟩ = some (.slice p1 k1 c1) ∧ w'.cell? ⟨w.heap.size, 2, none⟩ = some (.slice p2 k2 c2) ∧ w'.cell? ⟨w.heap.size + 1, 0, none⟩ = some (.bool s2) ∧ w'.cell? ⟨w.heap.size + 1, 1, none⟩ = some (.slice p3 k3 c3) ∧ w'.cell? ⟨w.heap.size + 1, 2, none⟩ = some (.slice p4 k4 c4) ∧ Hid (Below (w.heap.size + 1 + 1) w1 w'))) :=
      hid fun w' hb => ⟨(bcellN hb _ _ (by omega)).trans HP.out.1.1.cells.1, (bcellN hb _ _ (by omega)).trans HP.out.1.1.cells.2.1, (bcellN hb _ _ (by omega)).trans HP.out.1.1.cells.2.2.1, (bcellN hb _ _ (by omega)).trans HP.out.1.2.1.cells.1, (bcellN hb _ _ (by omega)).trans HP.out.1.2.1.cells.2.1, (bcellN hb _ _ (by omega)).trans HP.out.1.2.1.cells.2.2.1, hid hb⟩
    go_upto_region 3 with fail
    go_region_held3 (fun w' => w'.cell? ⟨w.heap.size, 0, none⟩ = some (.bool s1) ∧ w'.cell? ⟨w.heap.size, 1, none⟩ = some (.slice p1 k1 c1) ∧ w'.cell? ⟨w.heap.size, 2, none⟩ = some (.slice p2 k2 c2) ∧ w'.cell? ⟨w.heap.size + 1, 0, none⟩ = some (.bool s2) ∧ w'.cell? ⟨w.heap.size + 1, 1, none⟩ = some (.slice p3 k3 c3) ∧ w'.cell? ⟨w.heap.size + 1, 2, none⟩ = some (.slice p4 k4 c4) ∧ Hid (Below (w.heap.size + 1 + 1) w1 w'))
      (first | exact HS.out _ (Below.refl _ _).drew | (exact HS.out _ (by assumption)) | exact HS.out _ (below_set3 (by assumption) (Nat.le_refl _)))
      (first
        | (go_at_call_of 21 k1; refine (HO1.out _ (by first | assumption | exact (Below.refl _ _).drew)).mono ?_; rintro e wa ⟨s5, p5, k5, c5, p6, k6, c6, rfl, hQ1, hBa⟩; have hKa := held_any (by first | assumption | exact (Below.refl _ _).drew) hBa; have hKa2 := below_pre hKa hn3)
        | (go_at_call_of 21 k3; refine (HO2.out _ (by first | assumption | exact (Below.refl _ _).drew)).mono ?_; rintro e wb ⟨s7, p7, k7, c7, p8, k8, c8, rfl, hQ2, hBb⟩; have hKb := held_any (by first | assumption | exact (Below.refl _ _).drew) hBb; have hKb2 := below_pre hKb hn3)
        | (go_at_call 81; (first | refine (HOp.out _ _ _ (hQ1.out.below hBb) hQ2.out).mono ?_ | refine (HOp.out _ _ _ hQ1.out (hQ2.out.below hBa)).mono ?_); rintro e wc ⟨s9, p9, k9, c9, p10, k10, c10, rfl, hQ3, hBc⟩; have hKc := held_any (by first | assumption | exact (Below.refl _ _).drew) hBc; have hKc2 := below_pre hKc hn3)
        | (go_at_call 76; refine (HDn.out _ _ hQ3.out).mono ?_; rintro e wd ⟨hBd, sg, pa, ka, ca, pb, kb, cb, rfl, HF⟩; have hKd := held_any (by first | assumption | exact (Below.refl _ _).drew) hBd; have hKd2 := below_pre hKd hn3; obtain ⟨x0, x1, x2, y0, y1, y2⟩ := (HP.out.1.2.2.below hKd).cells))
    all_goals
      rename_i hHeld
      clear hHeld
      go_wp2_with fail
      exact rMul_ret rfl rfl ((HP.out.1.2.2.below hKd).store trivial trivial trivial) ⟨below_set3 (HP.out.2.trans (hKd.mono HP.out.2.size)) (by omega), ⟨_, _, _, _, _, _, _, rfl, hid (HF.out.store3 (HP.out.1.2.2.below hKd) _ _ _)⟩⟩
end Go.Proofs.YtdinpeglclkjhaaDoor
