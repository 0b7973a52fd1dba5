/- Roots on a grid of fractions, in the program. -/
import Derived.Test.YtjnfnngobkjneaaGreatDoorGrtP
namespace Go.Proofs.YtjnfnngobkjneaaGreatDoor
open Go.RowKit Dg Rt

theorem FracRootDown_ret {W : World} {B : Nat} {x y z : Value} {tm : Array Value} {R : Ending → World → Prop} (h2 : tm[6]?.getD undef = .pointer (some ⟨B, 0, none⟩)) (hV : Var3 W B x y z) (hR : R (.returned (.agg #[x, y, z])) W) :
    bodyPost Tryz.prog Tryz.f22 R .ret { tmps := tm, defers := [] } W := by
  obtain ⟨c0, c1, c2, _, _, _⟩ := hV.cells
  exact bodyPost_ret (v := .agg #[x, y, z]) (by simp [results, Tryz.results22, go_sem, h2, c0, c1, c2]) rfl hR

set_option maxHeartbeats 8000000 in
set_option maxRecDepth 100000 in
theorem FracRootDown_any (v : Value) (t : Bool × Nat × Nat) (n p : Nat) (w : World) (h : FNorm w v t) (hn : t.2.1 < W32 ^ 64) (hd : t.2.2 < W32 ^ 64) (h0 : 0 < t.2.2) (h2 : 2 ≤ n) (h8 : n ≤ 8) (hp : p ≤ 256) (ht : TabOk w) :
    Calls Tryz.prog 22 #[v, .int .i64 (n : Int), .int .i64 (p : Int)] w fun e w' => ∃ v', e = .returned v' ∧ FNorm w' v' (grdn t n p) ∧ Below w.heap.size w w' := by
  have HGr := hid (fun (W : World) (hW : Below w.heap.size w W) => gridRoot_any v t n p W (FNorm.below h hW) hn hd h0 h2 h8 hp (ht.below hW))
  have hsz : gsz t n p < W32 ^ 130 := Nat.lt_of_le_of_lt (gsz_le t (by omega) p) (Nat.lt_of_le_of_lt (gsc_le t n p) (gsc_W hn h8 hp))
  have HOf := hid (fun (W : World) => FromUint_any 1 W (by decide))
  have HAd := hid (fun (W : World) (v1 v2 : Value) (h1 : Rep W32 W v1 (gsz t n p)) (h2 : Rep W32 W v2 1) => Add_any v1 v2 (gsz t n p) 1 W h1 h2 (lt_big hsz (by omega)) (lt_big (a := 1) (by decide) (by omega)))
  have HOn := hid (fun (m : Nat) (hm : m ≤ gsz t n p + 1) (W : World) (v1 : Value) (h1 : Rep W32 W v1 m) (hT : TabOk W) => fopen (t := frac t.1 m (2 ^ p)) (onGrid_any t.1 v1 m p W h1 (Nat.lt_of_le_of_lt hm (lt_1m (succ_W hsz) (by omega))) (by omega) hT))
  have hbn : grdn t n p = frac t.1 (gsz t n p + if (t.1 && !gex t n p) = true then 1 else 0) (2 ^ p) := rfl
  obtain ⟨gr, hgr⟩ : ∃ b, b = grdn t n p := ⟨_, rfl⟩
  rw [← hgr] at hbn ⊢
  clear hgr hsz hn hd h0 h2 h8 hp
  obtain ⟨ge, hge⟩ : ∃ b, b = gex t n p := ⟨_, rfl⟩
  rw [← hge] at HGr hbn
  obtain ⟨z, hz⟩ : ∃ b, b = gsz t n p := ⟨_, rfl⟩
  rw [← hz] at HGr HAd HOn hbn
  clear hge hz
  have HT := hid ht
  clear ht
  obtain ⟨vn1, vd1, rfl, ⟨p1, k1, c1, rfl, _⟩, ⟨p2, k2, c2, rfl, _⟩⟩ := h
  obtain ⟨s1, hs1⟩ : ∃ s, s = t.1 := ⟨_, rfl⟩
  rw [← hs1] at HOn hbn HGr ⊢
  clear hs1
  have HBN := hid hbn
  clear hbn
  have hal := below_alloc2 w (.cells #[.bool s1, .slice p1 k1 c1, .slice p2 k2 c2] 50) (.cells #[.bool false, .slice none 0 0, .slice none 0 0] 50)
  have hV := (Var3.alloc w (x := .bool s1) (y := .slice p1 k1 c1) (z := .slice p2 k2 c2) 50 trivial trivial trivial).below ((Below.refl _ _).alloc (Nat.le_refl _) (.cells #[.bool false, .slice none 0 0, .slice none 0 0] 50))
  have hV2 := Var3.alloc2 w (.cells #[.bool s1, .slice p1 k1 c1, .slice p2 k2 c2] 50) (x := .bool false) (y := .slice none 0 0) (z := .slice none 0 0) 50 trivial trivial trivial
  go_enter Tryz.func22, Tryz.ntmps22
  go_upto_region 1 with fail
  generalize (w.alloc (.cells #[.bool s1, .slice p1 k1 c1, .slice p2 k2 c2] 50)).alloc (.cells #[.bool false, .slice none 0 0, .slice none 0 0] 50) = W0 at *
  have HB := hid hal
  have HV := hid (And.intro hV hV2)
  obtain ⟨x0, x1, x2, _⟩ := id hV.cells
  clear hal hV hV2
  go_wp2_with fail
  refine (HGr.out _ HB.out).mono ?_
  rintro e wq ⟨pq, kq, cq, rfl, hRq, hBq⟩
  have HV3 := hid (And.intro (HV.out.1.below hBq) (HV.out.2.below hBq))
  have HB3 := hid (HB.out.trans (hBq.mono HB.out.size))
  have HRq := hid hRq
  clear HV HB hBq hRq HGr x0 x1 x2
  obtain ⟨x0, x1, x2, _⟩ := HV3.out.1.cells
  cases s1 <;> cases ge
  · have hbe : gr = frac false z (2 ^ p) := HBN.out
    have HM := hid (HOn.out z (by omega))
    rw [← hbe] at HM
    clear HBN HOn hbe
    go_wp2_with fail
    refine (HM.out _ _ HRq.out (HT.out.below HB3.out)).mono ?_
    rintro e wf ⟨sg, pa, ka, ca, pb, kb, cb, rfl, HF, hBf⟩
    have HV4 := hid (And.intro (HV3.out.2.below hBf) (HB3.out.trans (hBf.mono HB3.out.size)))
    clear x0 x1 x2 hBf
    obtain ⟨x0, x1, x2, y0, y1, y2⟩ := HV4.out.1.cells
    go_wp2_with fail
    exact FracRootDown_ret rfl (HV4.out.1.store trivial trivial trivial) ⟨_, rfl, HF.out.store3 HV4.out.1 _ _ _, below_set3 HV4.out.2 (Nat.le_succ _)⟩
  · have hbe : gr = frac false z (2 ^ p) := HBN.out
    have HM := hid (HOn.out z (by omega))
    rw [← hbe] at HM
    clear HBN HOn hbe
    go_wp2_with fail
    refine (HM.out _ _ HRq.out (HT.out.below HB3.out)).mono ?_
    rintro e wf ⟨sg, pa, ka, ca, pb, kb, cb, rfl, HF, hBf⟩
    have HV4 := hid (And.intro (HV3.out.2.below hBf) (HB3.out.trans (hBf.mono HB3.out.size)))
    clear x0 x1 x2 hBf
    obtain ⟨x0, x1, x2, y0, y1, y2⟩ := HV4.out.1.cells
    go_wp2_with fail
    exact FracRootDown_ret rfl (HV4.out.1.store trivial trivial trivial) ⟨_, rfl, HF.out.store3 HV4.out.1 _ _ _, below_set3 HV4.out.2 (Nat.le_succ _)⟩
  · have hbe : gr = frac true (z + 1) (2 ^ p) := HBN.out
    have HM := hid (HOn.out (z + 1) (by omega))
    rw [← hbe] at HM
    clear HBN HOn hbe
    go_wp2_with fail
    refine (HOf.out _).mono ?_
    rintro e wo ⟨v1, rfl, hR1, hB1⟩
    have hRqo := HRq.out.below hB1
    clear x0 x1 x2
    go_wp2_with fail
    refine (HAd.out _ _ _ hRqo hR1).mono ?_
    rintro e wp ⟨v2, rfl, hR2, hB2⟩
    have hst := held_any hB1 hB2
    replace HV3 := hid (And.intro (HV3.out.1.below hst) (HV3.out.2.below hst))
    replace HB3 := hid (HB3.out.trans (hst.mono HB3.out.size))
    have HR2 := hid hR2
    clear hst hB1 hB2 hR1 hR2 hRqo HRq
    obtain ⟨x0, x1, x2, _⟩ := HV3.out.1.cells
    go_wp2_with fail
    refine (HM.out _ _ HR2.out (HT.out.below HB3.out)).mono ?_
    rintro e wf ⟨sg, pa, ka, ca, pb, kb, cb, rfl, HF, hBf⟩
    have HV4 := hid (And.intro (HV3.out.2.below hBf) (HB3.out.trans (hBf.mono HB3.out.size)))
    clear x0 x1 x2 hBf
    obtain ⟨x0, x1, x2, y0, y1, y2⟩ := HV4.out.1.cells
    go_wp2_with fail
    exact FracRootDown_ret rfl (HV4.out.1.store trivial trivial trivial) ⟨_, rfl, HF.out.store3 HV4.out.1 _ _ _, below_set3 HV4.out.2 (Nat.le_succ _)⟩
  · have hbe : gr = frac true z (2 ^ p) := HBN.out
    have HM := hid (HOn.out z (by omega))
    rw [← hbe] at HM
    clear HBN HOn hbe
    go_wp2_with fail
    refine (HM.out _ _ HRq.out (HT.out.below HB3.out)).mono ?_
    rintro e wf ⟨sg, pa, ka, ca, pb, kb, cb, rfl, HF, hBf⟩
    have HV4 := hid (And.intro (HV3.out.2.below hBf) (HB3.out.trans (hBf.mono HB3.out.size)))
    clear x0 x1 x2 hBf
    obtain ⟨x0, x1, x2, y0, y1, y2⟩ := HV4.out.1.cells
    go_wp2_with fail
    exact FracRootDown_ret rfl (HV4.out.1.store trivial trivial trivial) ⟨_, rfl, HF.out.store3 HV4.out.1 _ _ _, below_set3 HV4.out.2 (Nat.le_succ _)⟩

theorem FracRootUp_ret {W : World} {B : Nat} {x y z : Value} {tm : Array Value} {R : Ending → World → Prop} (h2 : tm[6]?.getD undef = .pointer (some ⟨B, 0, none⟩)) (hV : Var3 W B x y z) (hR : R (.returned (.agg #[x, y, z])) W) :
    bodyPost Tryz.prog Tryz.f23 R .ret { tmps := tm, defers := [] } W := by
  obtain ⟨c0, c1, c2, _, _, _⟩ := hV.cells
  exact bodyPost_ret (v := .agg #[x, y, z]) (by simp [results, Tryz.results23, go_sem, h2, c0, c1, c2]) rfl hR

set_option maxHeartbeats 8000000 in
set_option maxRecDepth 100000 in
theorem FracRootUp_any (v : Value) (t : Bool × Nat × Nat) (n p : Nat) (w : World) (h : FNorm w v t) (hn : t.2.1 < W32 ^ 64) (hd : t.2.2 < W32 ^ 64) (h0 : 0 < t.2.2) (h2 : 2 ≤ n) (h8 : n ≤ 8) (hp : p ≤ 256) (ht : TabOk w) :
    Calls Tryz.prog 23 #[v, .int .i64 (n : Int), .int .i64 (p : Int)] w fun e w' => ∃ v', e = .returned v' ∧ FNorm w' v' (grup t n p) ∧ Below w.heap.size w w' := by
  have HGr := hid (fun (W : World) (hW : Below w.heap.size w W) => gridRoot_any v t n p W (FNorm.below h hW) hn hd h0 h2 h8 hp (ht.below hW))
  have hsz : gsz t n p < W32 ^ 130 := Nat.lt_of_le_of_lt (gsz_le t (by omega) p) (Nat.lt_of_le_of_lt (gsc_le t n p) (gsc_W hn h8 hp))
  have HOf := hid (fun (W : World) => FromUint_any 1 W (by decide))
  have HAd := hid (fun (W : World) (v1 v2 : Value) (h1 : Rep W32 W v1 (gsz t n p)) (h2 : Rep W32 W v2 1) => Add_any v1 v2 (gsz t n p) 1 W h1 h2 (lt_big hsz (by omega)) (lt_big (a := 1) (by decide) (by omega)))
  have HOn := hid (fun (m : Nat) (hm : m ≤ gsz t n p + 1) (W : World) (v1 : Value) (h1 : Rep W32 W v1 m) (hT : TabOk W) => fopen (t := frac t.1 m (2 ^ p)) (onGrid_any t.1 v1 m p W h1 (Nat.lt_of_le_of_lt hm (lt_1m (succ_W hsz) (by omega))) (by omega) hT))
  have hbn : grup t n p = frac t.1 (gsz t n p + if (!t.1 && !gex t n p) = true then 1 else 0) (2 ^ p) := rfl
  obtain ⟨gr, hgr⟩ : ∃ b, b = grup t n p := ⟨_, rfl⟩
  rw [← hgr] at hbn ⊢
  clear hgr hsz hn hd h0 h2 h8 hp
  obtain ⟨ge, hge⟩ : ∃ b, b = gex t n p := ⟨_, rfl⟩
  rw [← hge] at HGr hbn
  obtain ⟨z, hz⟩ : ∃ b, b = gsz t n p := ⟨_, rfl⟩
  rw [← hz] at HGr HAd HOn hbn
  clear hge hz
  have HT := hid ht
  clear ht
  obtain ⟨vn1, vd1, rfl, ⟨p1, k1, c1, rfl, _⟩, ⟨p2, k2, c2, rfl, _⟩⟩ := h
  obtain ⟨s1, hs1⟩ : ∃ s, s = t.1 := ⟨_, rfl⟩
  rw [← hs1] at HOn hbn HGr ⊢
  clear hs1
  have HBN := hid hbn
  clear hbn
  have hal := below_alloc2 w (.cells #[.bool s1, .slice p1 k1 c1, .slice p2 k2 c2] 50) (.cells #[.bool false, .slice none 0 0, .slice none 0 0] 50)
  have hV := (Var3.alloc w (x := .bool s1) (y := .slice p1 k1 c1) (z := .slice p2 k2 c2) 50 trivial trivial trivial).below ((Below.refl _ _).alloc (Nat.le_refl _) (.cells #[.bool false, .slice none 0 0, .slice none 0 0] 50))
  have hV2 := Var3.alloc2 w (.cells #[.bool s1, .slice p1 k1 c1, .slice p2 k2 c2] 50) (x := .bool false) (y := .slice none 0 0) (z := .slice none 0 0) 50 trivial trivial trivial
  go_enter Tryz.func23, Tryz.ntmps23
  go_upto_region 1 with fail
  generalize (w.alloc (.cells #[.bool s1, .slice p1 k1 c1, .slice p2 k2 c2] 50)).alloc (.cells #[.bool false, .slice none 0 0, .slice none 0 0] 50) = W0 at *
  have HB := hid hal
  have HV := hid (And.intro hV hV2)
  obtain ⟨x0, x1, x2, _⟩ := id hV.cells
  clear hal hV hV2
  go_wp2_with fail
  refine (HGr.out _ HB.out).mono ?_
  rintro e wq ⟨pq, kq, cq, rfl, hRq, hBq⟩
  have HV3 := hid (And.intro (HV.out.1.below hBq) (HV.out.2.below hBq))
  have HB3 := hid (HB.out.trans (hBq.mono HB.out.size))
  have HRq := hid hRq
  clear HV HB hBq hRq HGr x0 x1 x2
  obtain ⟨x0, x1, x2, _⟩ := HV3.out.1.cells
  cases s1 <;> cases ge
  · have hbe : gr = frac false (z + 1) (2 ^ p) := HBN.out
    have HM := hid (HOn.out (z + 1) (by omega))
    rw [← hbe] at HM
    clear HBN HOn hbe
    go_wp2_with fail
    refine (HOf.out _).mono ?_
    rintro e wo ⟨v1, rfl, hR1, hB1⟩
    have hRqo := HRq.out.below hB1
    clear x0 x1 x2
    go_wp2_with fail
    refine (HAd.out _ _ _ hRqo hR1).mono ?_
    rintro e wp ⟨v2, rfl, hR2, hB2⟩
    have hst := held_any hB1 hB2
    replace HV3 := hid (And.intro (HV3.out.1.below hst) (HV3.out.2.below hst))
    replace HB3 := hid (HB3.out.trans (hst.mono HB3.out.size))
    have HR2 := hid hR2
    clear hst hB1 hB2 hR1 hR2 hRqo HRq
    obtain ⟨x0, x1, x2, _⟩ := HV3.out.1.cells
    go_wp2_with fail
    refine (HM.out _ _ HR2.out (HT.out.below HB3.out)).mono ?_
    rintro e wf ⟨sg, pa, ka, ca, pb, kb, cb, rfl, HF, hBf⟩
    have HV4 := hid (And.intro (HV3.out.2.below hBf) (HB3.out.trans (hBf.mono HB3.out.size)))
    clear x0 x1 x2 hBf
    obtain ⟨x0, x1, x2, y0, y1, y2⟩ := HV4.out.1.cells
    go_wp2_with fail
    exact FracRootUp_ret rfl (HV4.out.1.store trivial trivial trivial) ⟨_, rfl, HF.out.store3 HV4.out.1 _ _ _, below_set3 HV4.out.2 (Nat.le_succ _)⟩
  · have hbe : gr = frac false z (2 ^ p) := HBN.out
    have HM := hid (HOn.out z (by omega))
    rw [← hbe] at HM
    clear HBN HOn hbe
    go_wp2_with fail
    refine (HM.out _ _ HRq.out (HT.out.below HB3.out)).mono ?_
    rintro e wf ⟨sg, pa, ka, ca, pb, kb, cb, rfl, HF, hBf⟩
    have HV4 := hid (And.intro (HV3.out.2.below hBf) (HB3.out.trans (hBf.mono HB3.out.size)))
    clear x0 x1 x2 hBf
    obtain ⟨x0, x1, x2, y0, y1, y2⟩ := HV4.out.1.cells
    go_wp2_with fail
    exact FracRootUp_ret rfl (HV4.out.1.store trivial trivial trivial) ⟨_, rfl, HF.out.store3 HV4.out.1 _ _ _, below_set3 HV4.out.2 (Nat.le_succ _)⟩
  · have hbe : gr = frac true z (2 ^ p) := HBN.out
    have HM := hid (HOn.out z (by omega))
    rw [← hbe] at HM
    clear HBN HOn hbe
    go_wp2_with fail
    refine (HM.out _ _ HRq.out (HT.out.below HB3.out)).mono ?_
    rintro e wf ⟨sg, pa, ka, ca, pb, kb, cb, rfl, HF, hBf⟩
    have HV4 := hid (And.intro (HV3.out.2.below hBf) (HB3.out.trans (hBf.mono HB3.out.size)))
    clear x0 x1 x2 hBf
    obtain ⟨x0, x1, x2, y0, y1, y2⟩ := HV4.out.1.cells
    go_wp2_with fail
    exact FracRootUp_ret rfl (HV4.out.1.store trivial trivial trivial) ⟨_, rfl, HF.out.store3 HV4.out.1 _ _ _, below_set3 HV4.out.2 (Nat.le_succ _)⟩
  · have hbe : gr = frac true z (2 ^ p) := HBN.out
    have HM := hid (HOn.out z (by omega))
    rw [← hbe] at HM
    clear HBN HOn hbe
    go_wp2_with fail
    refine (HM.out _ _ HRq.out (HT.out.below HB3.out)).mono ?_
    rintro e wf ⟨sg, pa, ka, ca, pb, kb, cb, rfl, HF, hBf⟩
    have HV4 := hid (And.intro (HV3.out.2.below hBf) (HB3.out.trans (hBf.mono HB3.out.size)))
    clear x0 x1 x2 hBf
    obtain ⟨x0, x1, x2, y0, y1, y2⟩ := HV4.out.1.cells
    go_wp2_with fail
    exact FracRootUp_ret rfl (HV4.out.1.store trivial trivial trivial) ⟨_, rfl, HF.out.store3 HV4.out.1 _ _ _, below_set3 HV4.out.2 (Nat.le_succ _)⟩

end Go.Proofs.YtjnfnngobkjneaaGreatDoor
