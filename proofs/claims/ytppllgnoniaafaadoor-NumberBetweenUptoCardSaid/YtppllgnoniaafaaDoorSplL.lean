/- The simplest number between two, in the program: the loop. -/
import Derived.Test.YtppllgnoniaafaaDoorSplP
namespace Go.Proofs.YtppllgnoniaafaaDoor
open Go.RowKit Dg

theorem below_ad {W0 W : World} (h : Below W0.heap.size W0 W.drew) (o : Obj) : Below W0.heap.size W0 (W.alloc o).drew :=
  held3_alloc' (a := True) (b := True) (c := True) ⟨trivial, trivial, trivial, hid h⟩ o
/-- A fraction that is not negative, in a variable. -/
def FBox (w : World) (B n d : Nat) : Prop := ∃ pa ka ca pb kb cb, Var3 w B (.bool false) (.slice pa ka ca) (.slice pb kb cb) ∧ Rep W32 w (.slice pa ka ca) n ∧ Rep W32 w (.slice pb kb cb) d
theorem FBox.below {w w' : World} {B n d : Nat} (h : FBox w B n d) (hb : Below w.heap.size w w') : FBox w' B n d := by
  obtain ⟨pa, ka, ca, pb, kb, cb, h1, h2, h3⟩ := h
  exact ⟨pa, ka, ca, pb, kb, cb, h1.below hb, h2.below hb, h3.below hb⟩
theorem FBox.other {w : World} {B C n d : Nat} {a b c : Value} (h : FBox w B n d) (hC : Var3 w C a b c) (hne : B ≠ C) (x y z : Value) : FBox (((w.setCell ⟨C, 0, none⟩ x).setCell ⟨C, 1, none⟩ y).setCell ⟨C, 2, none⟩ z) B n d := by
  obtain ⟨pa, ka, ca, pb, kb, cb, h1, h2, h3⟩ := h
  exact ⟨pa, ka, ca, pb, kb, cb, h1.other hne x y z, h2.store3 hC x y z, h3.store3 hC x y z⟩
theorem FBox.set {w : World} {B n d : Nat} {a b c : Value} {pa pb : Option Addr} {ka ca kb cb : Nat} (hV : Var3 w B a b c) (h2 : Rep W32 w (.slice pa ka ca) n) (h3 : Rep W32 w (.slice pb kb cb) d) :
    FBox (((w.setCell ⟨B, 0, none⟩ (.bool false)).setCell ⟨B, 1, none⟩ (.slice pa ka ca)).setCell ⟨B, 2, none⟩ (.slice pb kb cb)) B n d :=
  ⟨pa, ka, ca, pb, kb, cb, hV.store trivial trivial trivial, h2.store3 hV _ _ _, h3.store3 hV _ _ _⟩
theorem FBox.new {w : World} {n d : Nat} {pa pb : Option Addr} {ka ca kb cb : Nat} (t : Nat) (h2 : Rep W32 w (.slice pa ka ca) n) (h3 : Rep W32 w (.slice pb kb cb) d) :
    FBox (w.alloc (.cells #[.bool false, .slice pa ka ca, .slice pb kb cb] t)) w.heap.size n d :=
  ⟨pa, ka, ca, pb, kb, cb, Var3.alloc w t trivial trivial trivial, h2.below ((Below.refl _ _).alloc (Nat.le_refl _) _), h3.below ((Below.refl _ _).alloc (Nat.le_refl _) _)⟩

theorem FBox.new2 {w : World} {n d m e : Nat} {pa pb pc pd : Option Addr} {ka ca kb cb kc cc kd cd : Nat} (t : Nat) (h1 : Rep W32 w (.slice pa ka ca) n) (h2 : Rep W32 w (.slice pb kb cb) d) (h3 : Rep W32 w (.slice pc kc cc) m) (h4 : Rep W32 w (.slice pd kd cd) e) :
    FBox (((w.alloc (.cells #[.bool false, .slice pa ka ca, .slice pb kb cb] t)).alloc (.cells #[.bool false, .slice pc kc cc, .slice pd kd cd] t)).drew) w.heap.size n d ∧
    FBox (((w.alloc (.cells #[.bool false, .slice pa ka ca, .slice pb kb cb] t)).alloc (.cells #[.bool false, .slice pc kc cc, .slice pd kd cd] t)).drew) (w.heap.size + 1) m e ∧
    Below w.heap.size w (((w.alloc (.cells #[.bool false, .slice pa ka ca, .slice pb kb cb] t)).alloc (.cells #[.bool false, .slice pc kc cc, .slice pd kd cd] t)).drew) := by
  have hal := (Below.refl w.heap.size w).alloc (Nat.le_refl _) (.cells #[.bool false, .slice pa ka ca, .slice pb kb cb] t)
  refine ⟨((FBox.new t h1 h2).below ((Below.refl _ _).alloc (Nat.le_refl _) _)).below (Below.refl _ _).drew, ?_, (below_alloc2 w _ _).drew⟩
  have h := FBox.new t (h3.below hal) (h4.below hal)
  rw [World.size_alloc] at h
  exact h.below (Below.refl _ _).drew

theorem conv_bd {a0 b0 a1 b1 s1 s2 S1 S2 N D Z : Nat} (h1 : 0 < s1) (h2 : 0 < s2) (e1 : S1 = a1 * s1 + a0 * s2) (e2 : S2 = b1 * s1 + b0 * s2) (l1 : S1 ≤ N) (l2 : S2 ≤ D) (bn : N < W32 ^ Z) (bd : D < W32 ^ Z) :
    a0 < W32 ^ Z ∧ b0 < W32 ^ Z ∧ a1 < W32 ^ Z ∧ b1 < W32 ^ Z := by
  have k1 := Nat.le_mul_of_pos_right a1 h1
  have k2 := Nat.le_mul_of_pos_right a0 h2
  have k3 := Nat.le_mul_of_pos_right b1 h1
  have k4 := Nat.le_mul_of_pos_right b0 h2
  omega
theorem FBox.lt {w : World} {B n d : Nat} (h : FBox w B n d) : B < w.heap.size := by
  obtain ⟨_, _, _, _, _, _, ⟨_, h0, _⟩, _⟩ := h
  exact (Array.getElem?_eq_some_iff.1 h0).1
/-- The variables of the loop are four, behind the world's size. -/
def SNum (N L H A O : Nat) : Prop := N ≤ L ∧ N ≤ H ∧ N ≤ A ∧ N ≤ O ∧ L ≠ H ∧ L ≠ A ∧ L ≠ O ∧ H ≠ A ∧ H ≠ O ∧ A ≠ O
/-- What the loop keeps: what is left between low and high, with the last two convergents. -/
def SRel (w1 : World) (L H A O : Nat) (S : Nat × Nat) (Z k : Nat) (wr : World) : Prop := ∃ n d m e a0 b0 a1 b1, FBox wr L n d ∧ FBox wr H m e ∧ FBox wr A a0 b0 ∧ FBox wr O a1 b1 ∧ Below w1.heap.size w1 wr ∧ d + e ≤ k ∧
  (0 < n ∧ 0 < d ∧ 0 < e ∧ n * e ≤ m * d) ∧ (n < W32 ^ Z ∧ d < W32 ^ Z ∧ m < W32 ^ Z ∧ e < W32 ^ Z) ∧ S.1 = a1 * (spl n d m e).1 + a0 * (spl n d m e).2 ∧ S.2 = b1 * (spl n d m e).1 + b0 * (spl n d m e).2

theorem srel_next {wb w9 w1 : World} {L H A1 A2 nn dd mm ee a0 b0 a1 b1 Z : Nat} {S : Nat × Nat} {q2 q4 pr pl : Option Addr} {j2 i2 j4 i4 kr cr kl cl : Nat} {x0 x1 x2 y0 y1 y2 : Value} (hN : SNum w1.heap.size L H A1 A2) (fA : FBox wb A1 a1 b1) (fO : FBox wb A2 (nn / dd * a1 + a0) (nn / dd * b1 + b0))
    (hB : Below w1.heap.size w1 wb) (hd : Rep W32 wb (.slice q2 j2 i2) dd) (he : Rep W32 wb (.slice q4 j4 i4) ee) (hr : Rep W32 wb (.slice pr kr cr) (nn % dd)) (hK9 : Below wb.heap.size wb w9) (hl : Rep W32 w9 (.slice pl kl cl) (mm - nn / dd * ee))
    (hVL : Var3 w9 L x0 x1 x2) (hVH : Var3 w9 H y0 y1 y2) (hbd : nn < W32 ^ Z ∧ dd < W32 ^ Z ∧ mm < W32 ^ Z ∧ ee < W32 ^ Z) (hpos : 0 < nn ∧ 0 < dd ∧ 0 < ee ∧ nn * ee ≤ mm * dd)
    (hS1 : S.1 = a1 * (spl nn dd mm ee).1 + a0 * (spl nn dd mm ee).2) (hS2 : S.2 = b1 * (spl nn dd mm ee).1 + b0 * (spl nn dd mm ee).2) (h0 : ¬ nn % dd = 0) (h2 : ¬ (nn / dd + 1) * ee ≤ mm) :
    SRel w1 L H A1 A2 S Z (mm - nn / dd * ee + nn % dd) ((((((w9.setCell ⟨L, 0, none⟩ (.bool false)).setCell ⟨L, 1, none⟩ (.slice q4 j4 i4)).setCell ⟨L, 2, none⟩ (.slice pl kl cl)).setCell ⟨H, 0, none⟩ (.bool false)).setCell ⟨H, 1, none⟩ (.slice q2 j2 i2)).setCell ⟨H, 2, none⟩ (.slice pr kr cr)) := by
  obtain ⟨n1, n2, n3, n4, n5, n6, n7, n8, n9, n10⟩ := hN
  obtain ⟨k1, k2, k3, k4, k5, k6⟩ := spl_ends hpos.2.1 hpos.2.2.1 hpos.2.2.2 h0 h2
  have hz := spl_step hpos.2.1 h0 h2
  rw [hz] at hS1 hS2
  have fL := FBox.set hVL (he.below hK9) hl
  have hVH2 := hVH.other (Ne.symm n5) (.bool false) (.slice q4 j4 i4) (.slice pl kl cl)
  have hd2 := (hd.below hK9).store3 hVL (.bool false) (.slice q4 j4 i4) (.slice pl kl cl)
  have hr2 := (hr.below hK9).store3 hVL (.bool false) (.slice q4 j4 i4) (.slice pl kl cl)
  have fA2 := (fA.below hK9).other hVL (Ne.symm n6) (.bool false) (.slice q4 j4 i4) (.slice pl kl cl)
  have fO2 := (fO.below hK9).other hVL (Ne.symm n7) (.bool false) (.slice q4 j4 i4) (.slice pl kl cl)
  have hB2 : Below w1.heap.size w1 (((w9.setCell ⟨L, 0, none⟩ (.bool false)).setCell ⟨L, 1, none⟩ (.slice q4 j4 i4)).setCell ⟨L, 2, none⟩ (.slice pl kl cl)) := below_set3 (hB.trans (hK9.mono hB.size)) n1
  clear fA fO hB hd he hr hK9 hl hVL hVH
  generalize (((w9.setCell ⟨L, 0, none⟩ (.bool false)).setCell ⟨L, 1, none⟩ (.slice q4 j4 i4)).setCell ⟨L, 2, none⟩ (.slice pl kl cl)) = wl at *
  refine ⟨ee, mm - nn / dd * ee, dd, nn % dd, a1, b1, nn / dd * a1 + a0, nn / dd * b1 + b0, fL.other hVH2 n5 (.bool false) (.slice q2 j2 i2) (.slice pr kr cr), FBox.set hVH2 hd2 hr2, fA2.other hVH2 (Ne.symm n8) (.bool false) (.slice q2 j2 i2) (.slice pr kr cr), fO2.other hVH2 (Ne.symm n9) (.bool false) (.slice q2 j2 i2) (.slice pr kr cr), below_set3 hB2 n2, Nat.le_refl _, ⟨hpos.2.2.1, k2, k4, k6⟩, ⟨hbd.2.2.2, Nat.lt_of_le_of_lt (Nat.sub_le _ _) hbd.2.2.1, hbd.2.1, Nat.lt_of_le_of_lt (Nat.mod_le _ _) hbd.1⟩, ?_, ?_⟩
  · rw [hS1]
    generalize (spl ee (mm - nn / dd * ee) dd (nn % dd)).1 = u
    generalize (spl ee (mm - nn / dd * ee) dd (nn % dd)).2 = v
    simp only
    grind
  · rw [hS2]
    generalize (spl ee (mm - nn / dd * ee) dd (nn % dd)).1 = u
    generalize (spl ee (mm - nn / dd * ee) dd (nn % dd)).2 = v
    simp only
    grind

theorem simplest_ret {W : World} {B : Nat} {x y z : Value} {tm : Array Value} {R : Ending → World → Prop} (h2 : tm[4]?.getD undef = .pointer (some ⟨B, 0, none⟩)) (hV : Var3 W B x y z) (hR : R (.returned (.agg #[x, y, z])) W) :
    bodyPost Tryd.prog Tryd.f96 R .ret { tmps := tm, defers := [] } W := by
  obtain ⟨c0, c1, c2, _, _, _⟩ := hV.cells
  exact bodyPost_ret (v := .agg #[x, y, z]) (by simp [results, Tryd.results96, go_sem, h2, c0, c1, c2]) rfl hR

set_option maxHeartbeats 16000000 in
set_option maxRecDepth 100000 in
theorem simplest_any (va vb : Value) (n d m e A : Nat) (w : World) (ha : FRep w va false n d) (hb : FRep w vb false m e)
    (bn : n < W32 ^ A) (bd : d < W32 ^ A) (bm : m < W32 ^ A) (be : e < W32 ^ A) (hA1 : 1 ≤ A) (hA : A ≤ 300) (hn : 0 < n) (hd : 0 < d) (he : 0 < e) (hle : n * e ≤ m * d) (ht : TabOk w) :
    Calls Tryd.prog 96 #[va, vb] w fun e' w' => ∃ v', e' = .returned v' ∧ FRep w' v' false (spl n d m e).1 (spl n d m e).2 ∧ Below w.heap.size w w' := by
  obtain ⟨va1, va2, rfl, ra1, ra2⟩ := ha
  obtain ⟨vb1, vb2, rfl, rb1, rb2⟩ := hb
  have HR := hid (And.intro (And.intro ra1 ra2) (And.intro rb1 rb2))
  obtain ⟨p1, k1, c1, rfl, _⟩ := ra1
  obtain ⟨p2, k2, c2, rfl, _⟩ := ra2
  obtain ⟨p3, k3, c3, rfl, _⟩ := rb1
  obtain ⟨p4, k4, c4, rfl, _⟩ := rb2
  have HX := hid (And.intro bn (And.intro bd (And.intro bm (And.intro be (And.intro hA1 (And.intro hA (And.intro hn (And.intro hd (And.intro he (And.intro hle ht))))))))))
  clear bn bd bm be hA1 hA hn hd he hle ht
  go_enter Tryd.func96, Tryd.ntmps96
  go_upto_region 1 with fail
  have hVa := ((Var3.alloc w (x := .bool false) (y := .slice p1 k1 c1) (z := .slice p2 k2 c2) 56 trivial trivial trivial).below ((Below.refl _ _).alloc (Nat.le_refl _) (.cells #[.bool false, .slice p3 k3 c3, .slice p4 k4 c4] 56))).below ((Below.refl _ _).alloc (Nat.le_refl _) (.cells #[.bool false, .slice none 0 0, .slice none 0 0] 56))
  have hVb := (Var3.alloc2 w (.cells #[.bool false, .slice p1 k1 c1, .slice p2 k2 c2] 56) (x := .bool false) (y := .slice p3 k3 c3) (z := .slice p4 k4 c4) 56 trivial trivial trivial).below ((Below.refl _ _).alloc (Nat.le_refl _) (.cells #[.bool false, .slice none 0 0, .slice none 0 0] 56))
  have hVr := Var3.alloc3 w (.cells #[.bool false, .slice p1 k1 c1, .slice p2 k2 c2] 56) (.cells #[.bool false, .slice p3 k3 c3, .slice p4 k4 c4] 56) (x := .bool false) (y := .slice none 0 0) (z := .slice none 0 0) 56 trivial trivial trivial
  have hB0 := below_alloc3 w (.cells #[.bool false, .slice p1 k1 c1, .slice p2 k2 c2] 56) (.cells #[.bool false, .slice p3 k3 c3, .slice p4 k4 c4] 56) (.cells #[.bool false, .slice none 0 0, .slice none 0 0] 56)
  generalize ((w.alloc (.cells #[.bool false, .slice p1 k1 c1, .slice p2 k2 c2] 56)).alloc (.cells #[.bool false, .slice p3 k3 c3, .slice p4 k4 c4] 56)).alloc (.cells #[.bool false, .slice none 0 0, .slice none 0 0] 56) = W0 at *
  have HV : Hid ((Var3 W0 w.heap.size (.bool false) (.slice p1 k1 c1) (.slice p2 k2 c2) ∧ Var3 W0 (w.heap.size + 1) (.bool false) (.slice p3 k3 c3) (.slice p4 k4 c4) ∧ Var3 W0 (w.heap.size + 1 + 1) (.bool false) (.slice none 0 0) (.slice none 0 0)) ∧ Below w.heap.size w W0) := hid ⟨⟨hVa, hVb, hVr⟩, hB0⟩
  clear hVa hVb hVr hB0
  go_wp2_with fail
  refine (FromUint_any 1 W0 (by decide)).mono ?_
  rintro e1 w1 ⟨vo, rfl, hRo, hB1⟩
  replace HV := hid (And.intro (And.intro (HV.out.1.1.below hB1) (And.intro (HV.out.1.2.1.below hB1) (HV.out.1.2.2.below hB1))) (HV.out.2.trans (hB1.mono HV.out.2.size)))
  have HRo := hid hRo
  obtain ⟨p0, k0, c0, rfl, _⟩ := hRo
  clear hB1
  obtain ⟨a0, a1, a2, _⟩ := HV.out.1.1.cells
  obtain ⟨b0, b1, b2, _⟩ := HV.out.1.2.1.cells
  have HS : Hid (∀ w', Below w1.heap.size w1 w' → (w'.cell? ⟨w.heap.size, 0, none⟩ = some (.bool false) ∧ w'.cell? ⟨w.heap.size, 1, none⟩ = some (.slice p1 k1 c1) ∧ w'.cell? ⟨w.heap.size, 2, none⟩ = some (.slice p2 k2 c2) ∧ w'.cell? ⟨w.heap.size + 1, 0, none⟩ = some (.bool false) ∧ w'.cell? ⟨w.heap.size + 1, 1, none⟩ = some (.slice p3 k3 c3) ∧ w'.cell? ⟨w.heap.size + 1, 2, none⟩ = some (.slice p4 k4 c4) ∧ Hid (Below w1.heap.size w1 w'))) :=
    hid fun w' hb => ⟨(HV.out.1.1.below hb).cells.1, (HV.out.1.1.below hb).cells.2.1, (HV.out.1.1.below hb).cells.2.2.1, (HV.out.1.2.1.below hb).cells.1, (HV.out.1.2.1.below hb).cells.2.1, (HV.out.1.2.1.below hb).cells.2.2.1, hid hb⟩
  clear a0 a1 a2 b0 b1 b2
  go_wp2_with fail
  go_region_held3 (fun w' => w'.cell? ⟨w.heap.size, 0, none⟩ = some (.bool false) ∧ w'.cell? ⟨w.heap.size, 1, none⟩ = some (.slice p1 k1 c1) ∧ w'.cell? ⟨w.heap.size, 2, none⟩ = some (.slice p2 k2 c2) ∧ w'.cell? ⟨w.heap.size + 1, 0, none⟩ = some (.bool false) ∧ w'.cell? ⟨w.heap.size + 1, 1, none⟩ = some (.slice p3 k3 c3) ∧ w'.cell? ⟨w.heap.size + 1, 2, none⟩ = some (.slice p4 k4 c4) ∧ Hid (Below w1.heap.size w1 w'))
    (first | exact HS.out _ (Below.refl _ _).drew | (exact HS.out _ (by assumption)) | (exact HS.out _ (below_alloc2 w1 _ _).drew) | (exact HS.out _ (below_al1 (Below.refl _ _) _).drew))
    (first | fail)
  all_goals
    rename_i hHeld
    clear hHeld HS
    have HRw := hid (And.intro (And.intro (HR.out.1.1.below HV.out.2) (HR.out.1.2.below HV.out.2)) (And.intro (HR.out.2.1.below HV.out.2) (HR.out.2.2.below HV.out.2)))
    first
      | (obtain ⟨hBL, hBH, hBW⟩ := FBox.new2 (w := w1) 56 HRw.out.1.1 HRw.out.1.2 HRw.out.2.1 HRw.out.2.2
         generalize ((w1.alloc (.cells #[.bool false, .slice p1 k1 c1, .slice p2 k2 c2] 56)).alloc (.cells #[.bool false, .slice p3 k3 c3, .slice p4 k4 c4] 56)).drew = WN at *
         show Exit.then _ _ Exit.normal _ WN
         obtain ⟨L, hE1⟩ : ∃ z, z = w1.heap.size := ⟨_, rfl⟩
         rw [← hE1] at hBL hBH ⊢
         obtain ⟨H, hE2⟩ : ∃ z, z = L + 1 := ⟨_, rfl⟩
         rw [← hE2] at hBH ⊢
         have hLH : w1.heap.size ≤ L ∧ w1.heap.size ≤ H ∧ L ≠ H := by omega
         clear hE1 hE2)
      | (obtain ⟨hBH, hBL, hBW⟩ := FBox.new2 (w := w1) 56 HRw.out.2.1 HRw.out.2.2 HRw.out.1.1 HRw.out.1.2
         generalize ((w1.alloc (.cells #[.bool false, .slice p3 k3 c3, .slice p4 k4 c4] 56)).alloc (.cells #[.bool false, .slice p1 k1 c1, .slice p2 k2 c2] 56)).drew = WN at *
         show Exit.then _ _ Exit.normal _ WN
         obtain ⟨H, hE1⟩ : ∃ z, z = w1.heap.size := ⟨_, rfl⟩
         rw [← hE1] at hBH hBL ⊢
         obtain ⟨L, hE2⟩ : ∃ z, z = H + 1 := ⟨_, rfl⟩
         rw [← hE2] at hBL ⊢
         have hLH : w1.heap.size ≤ L ∧ w1.heap.size ≤ H ∧ L ≠ H := by omega
         clear hE1 hE2)
    have HLH := hid (And.intro hBL (And.intro hBH (And.intro hBW hLH)))
    clear hBL hBH hBW HRw HR hLH
    go_wp2_with fail
    have hRoN := HRo.out.below HLH.out.2.2.1
    have hBA := FBox.new 56 (Rep.nil (w := WN)) hRoN
    have hAl1 := (Below.refl WN.heap.size WN).alloc (Nat.le_refl _) (.cells #[.bool false, .slice none 0 0, .slice p0 k0 c0] 56)
    have hBO := FBox.new 56 (hRoN.below hAl1) (Rep.nil (w := WN.alloc (.cells #[.bool false, .slice none 0 0, .slice p0 k0 c0] 56)))
    rw [World.size_alloc] at hBO
    have hAl2 := below_alloc2 WN (.cells #[.bool false, .slice none 0 0, .slice p0 k0 c0] 56) (.cells #[.bool false, .slice p0 k0 c0, .slice none 0 0] 56)
    replace hBA := hBA.below ((Below.refl _ _).alloc (Nat.le_refl _) (.cells #[.bool false, .slice p0 k0 c0, .slice none 0 0] 56))
    have hsz := HLH.out.2.2.1.size
    have hLs := HLH.out.1.lt
    have hHs := HLH.out.2.1.lt
    have hBL := HLH.out.1.below hAl2
    have hBH := HLH.out.2.1.below hAl2
    have hBW := HLH.out.2.2.1.trans (hAl2.mono hsz)
    have hLH := HLH.out.2.2.2
    clear HLH hAl1 hAl2 hRoN
    generalize (WN.alloc (.cells #[.bool false, .slice none 0 0, .slice p0 k0 c0] 56)).alloc (.cells #[.bool false, .slice p0 k0 c0, .slice none 0 0] 56) = W2 at *
    obtain ⟨A1, hE1⟩ : ∃ z, z = WN.heap.size := ⟨_, rfl⟩
    rw [← hE1] at hBA hBO hLs hHs hsz ⊢
    obtain ⟨A2, hE2⟩ : ∃ z, z = A1 + 1 := ⟨_, rfl⟩
    rw [← hE2] at hBO ⊢
    have HN := hid (show SNum w1.heap.size L H A1 A2 from ⟨hLH.1, hLH.2.1, by omega, by omega, hLH.2.2, by omega, by omega, by omega, by omega, by omega⟩)
    clear hE1 hE2 hsz hLs hHs hLH
    have HREL := hid (show SRel w1 L H A1 A2 (spl n d m e) A (d + e) W2 from ⟨n, d, m, e, 0, 1, 1, 0, hBL, hBH, hBA, hBO, hBW, Nat.le_refl _, ⟨HX.out.2.2.2.2.2.2.1, HX.out.2.2.2.2.2.2.2.1, HX.out.2.2.2.2.2.2.2.2.1, HX.out.2.2.2.2.2.2.2.2.2.1⟩, ⟨HX.out.1, HX.out.2.1, HX.out.2.2.1, HX.out.2.2.2.1⟩, by omega, by omega⟩)
    clear hBL hBH hBA hBO hBW
    go_loopg [] (d + e) (fun k wr => SRel w1 L H A1 A2 (spl n d m e) A k wr)
    case atStart => exact HREL.out
    case round =>
      clear HREL
      obtain ⟨nn, dd, mm, ee, a0, b0, a1, b1, hBL, hBH, hBA, hBO, hBW, hk, hpos, hbd, hS1, hS2⟩ := hrel
      have hf := spl_facts _ nn dd mm ee (Nat.le_refl _) hpos.1 hpos.2.1 hpos.2.2.1 hpos.2.2.2
      have hle1 := spl_le HX.out.2.2.2.2.2.2.1 HX.out.2.2.2.2.2.2.2.1 HX.out.2.2.2.2.2.2.2.2.1 HX.out.2.2.2.2.2.2.2.2.2.1
      have hb4 := conv_bd hf.1 hf.2.1 hS1 hS2 hle1.1 hle1.2 HX.out.1 HX.out.2.1
      have hA1 := HX.out.2.2.2.2.1
      have hA := HX.out.2.2.2.2.2.1
      have hE := spl_ends hpos.2.1 hpos.2.2.1 hpos.2.2.2
      have hz0 := @spl_zero nn dd mm ee
      have hz1 := @spl_next nn dd mm ee hpos.2.1
      have hz2 := @spl_step nn dd mm ee hpos.2.1
      have bf : nn / dd < W32 ^ A := Nat.lt_of_le_of_lt (Nat.div_le_self _ _) hbd.1
      have bf1 : nn / dd + 1 < W32 ^ (A + 1) := succ_W bf
      have HTw := hid (HX.out.2.2.2.2.2.2.2.2.2.2.below (HV.out.2.trans (hBW.mono HV.out.2.size)))
      have HVR := hid (HV.out.1.2.2.below hBW)
      have HBz := hid (HV.out.2.trans (hBW.mono HV.out.2.size))
      have HBW := hid hBW
      obtain ⟨q1, j1, i1, q2, j2, i2, hVL, rL1, rL2⟩ := hBL
      obtain ⟨q3, j3, i3, q4, j4, i4, hVH, rH1, rH2⟩ := hBH
      obtain ⟨q5, j5, i5, q6, j6, i6, hVA, rA1, rA2⟩ := hBA
      obtain ⟨q7, j7, i7, q8, j8, i8, hVO, rO1, rO2⟩ := hBO
      have HBX := hid (And.intro hVL (And.intro hVH (And.intro hVA hVO)))
      have HRP := hid (And.intro (And.intro rL1 rL2) (And.intro (And.intro rH1 rH2) (And.intro (And.intro rA1 rA2) (And.intro rO1 rO2))))
      have HDv := hid (Div_any _ _ nn dd wr rL1 rL2 (lt_9 hbd.1 (by omega)) (lt_9 hbd.2.1 (by omega)) hpos.2.1 HTw.out)
      have HFo := hid (fun (f : Nat) (bff : f < W32 ^ (A + 1)) (W : World) (vq : Value) (hst : Below wr.heap.size wr W) (hq : Rep W32 W vq f) => follow_any _ _ vq a0 b0 a1 b1 f (A + 1) W ⟨_, _, rfl, rA1.below hst, rA2.below hst⟩ ⟨_, _, rfl, rO1.below hst, rO2.below hst⟩ hq (lt_pow hb4.1 (by omega)) (lt_pow hb4.2.1 (by omega)) (lt_pow hb4.2.2.1 (by omega)) (lt_pow hb4.2.2.2 (by omega)) bff (by omega))
      have HAd := hid (fun (W : World) (v1 : Value) (h1 : Rep W32 W v1 (nn / dd)) (h2 : Rep W32 W (.slice p0 k0 c0) 1) => Add_any v1 _ (nn / dd) 1 W h1 h2 (lt_big bf (by omega)) (lt_big (a := 1) (by decide) (by omega)))
      have bme : (nn / dd + 1) * ee < W32 ^ (A + 1 + A) := lt_mul bf1 hbd.2.2.2 (Nat.le_refl _)
      have HMe := hid (fun (W : World) (v1 : Value) (h1 : Rep W32 W v1 (nn / dd + 1)) (hst : Below wr.heap.size wr W) => Mul_any v1 _ (nn / dd + 1) ee W h1 (rH2.below hst) (lt_big bf1 (by omega)) (lt_big hbd.2.2.2 (by omega)))
      have HCm := hid (fun (W : World) (v1 : Value) (h1 : Rep W32 W v1 ((nn / dd + 1) * ee)) (hst : Below wr.heap.size wr W) => Compare_any v1 _ ((nn / dd + 1) * ee) mm W h1 (rH1.below hst) (lt_big bme (by omega)) (lt_big hbd.2.2.1 (by omega)))
      have HMf := hid (And.intro bf (And.intro hbd hA))
      have HK := hid (And.intro hk (And.intro hpos (And.intro hbd (And.intro hS1 (And.intro hS2 (And.intro hz0 (And.intro hz1 (And.intro hz2 hE))))))))
      have HB4 := hid (And.intro bf bf1)
      obtain ⟨l0, l1, l2, _⟩ := hVL.cells
      clear hf hle1 hb4 hA1 hA hE hz0 hz1 hz2 bf bf1 bme hk hpos hbd hS1 hS2 hBW hVL hVH hVA hVO rL1 rL2 rH1 rH2 rA1 rA2 rO1 rO2
      go_wp2_with fail
      refine HDv.out.mono ?_
      rintro e2 w2 ⟨vf, vr, rfl, hRf, hRr, hst⟩
      have HRf := hid hRf
      have HRr := hid hRr
      have HZ := hid (IsZero_any vr _ w2 hRr)
      have HST := hid hst
      obtain ⟨pr, kr, cr, rfl, _⟩ := hRr
      obtain ⟨pf, kf, cf, rfl, _⟩ := hRf
      clear l0 l1 l2 HDv hst
      by_cases h : nn % dd = 0
      · rw [decide_eq_true h] at HZ
        have hsp := HK.out.2.2.2.2.2.1 h
        obtain ⟨x0, x1, x2, _⟩ := (HBX.out.2.2.1.below HST.out).cells
        obtain ⟨y0, y1, y2, _⟩ := (HBX.out.2.2.2.below HST.out).cells
        have HF1 := hid (HFo.out _ (lt_pow HB4.out.1 (by omega)) w2 _ HST.out HRf.out)
        have HFin : Hid (((spl n d m e).1 = nn / dd * a1 + a0) ∧ ((spl n d m e).2 = nn / dd * b1 + b0)) := by
          have h1 := HK.out.2.2.2.1
          have h2 := HK.out.2.2.2.2.1
          rw [hsp] at h1 h2
          exact hid ⟨by rw [h1, Nat.mul_comm a1, Nat.mul_one], by rw [h2, Nat.mul_comm b1, Nat.mul_one]⟩
        clear hsp h
        go_wp2_with fail
        refine HZ.out.mono ?_
        rintro e3 w3 ⟨rfl, rfl⟩
        go_wp2_with fail
        refine HF1.out.mono ?_
        rintro e4 w4 ⟨v4, rfl, ⟨vn, vd, rfl, hn4, hd4⟩, hB4⟩
        have hVR := HVR.out.below (HST.out.trans (hB4.mono HST.out.size))
        have HF4 := hid (And.intro hn4 (And.intro hd4 (HBz.out.trans ((HST.out.trans (hB4.mono HST.out.size)).mono HBz.out.size))))
        have HVR4 := hid hVR
        obtain ⟨pn, kn, cn, rfl, _⟩ := hn4
        obtain ⟨pd, kd, cd, rfl, _⟩ := hd4
        obtain ⟨z0, z1, z2, m0, m1, m2⟩ := hVR.cells
        clear x0 x1 x2 y0 y1 y2 hB4 hVR
        go_wp2_with fail
        exact simplest_ret rfl (HVR4.out.store trivial trivial trivial) ⟨_, rfl, ⟨_, _, rfl, by rw [HFin.out.1]; exact HF4.out.1.store3 HVR4.out _ _ _, by rw [HFin.out.2]; exact HF4.out.2.1.store3 HVR4.out _ _ _⟩, below_set3 HF4.out.2.2 (by show w.heap.size ≤ w.heap.size + 1 + 1; omega)⟩
      · rw [decide_eq_false h] at HZ
        have H0 := hid h
        clear h
        go_wp2_with fail
        refine HZ.out.mono ?_
        rintro e3 w3 ⟨rfl, rfl⟩
        go_wp2_with fail
        refine (HAd.out _ _ HRf.out (HRo.out.below (HBW.out.trans (HST.out.mono HBW.out.size)))).mono ?_
        rintro e4 w4 ⟨vx, rfl, hRx, hB4⟩
        replace HRf := hid (HRf.out.below hB4)
        replace HRr := hid (HRr.out.below hB4)
        have HRx := hid hRx
        obtain ⟨px, kx, cx, rfl, _⟩ := hRx
        replace HST := hid (HST.out.trans (hB4.mono HST.out.size))
        clear hB4
        have hcmp : cmp3 ((nn / dd + 1) * ee) mm ≤ 0 ↔ (nn / dd + 1) * ee ≤ mm := by
          unfold cmp3
          constructor
          · intro hh
            split at hh
            · omega
            · split at hh
              · exact absurd hh (by decide)
              · omega
          · intro hh
            split
            · decide
            · split
              · omega
              · decide
        obtain ⟨cm, hcm⟩ : ∃ c, c = cmp3 ((nn / dd + 1) * ee) mm := ⟨_, rfl⟩
        rw [← hcm] at hcmp HCm
        have HCP := hid hcmp
        clear hcm hcmp
        have HS8 : Hid (∀ w', Below w4.heap.size w4 w' → (w'.cell? ⟨H, 0, none⟩ = some (.bool false) ∧ w'.cell? ⟨H, 1, none⟩ = some (.slice q3 j3 i3) ∧ w'.cell? ⟨H, 2, none⟩ = some (.slice q4 j4 i4) ∧ Hid (Below w4.heap.size w4 w'))) :=
          hid fun w' hb => ⟨((HBX.out.2.1.below HST.out).below hb).cells.1, ((HBX.out.2.1.below HST.out).below hb).cells.2.1, ((HBX.out.2.1.below HST.out).below hb).cells.2.2.1, hid hb⟩
        go_wp2_with fail
        go_region_held3 (fun w' => w'.cell? ⟨H, 0, none⟩ = some (.bool false) ∧ w'.cell? ⟨H, 1, none⟩ = some (.slice q3 j3 i3) ∧ w'.cell? ⟨H, 2, none⟩ = some (.slice q4 j4 i4) ∧ Hid (Below w4.heap.size w4 w'))
          (first | exact HS8.out _ (Below.refl _ _).drew | (exact HS8.out _ (by assumption)))
          (first
            | (go_at_call 82; refine (HMe.out _ _ (HRx.out.below (held3' (N := w4.heap.size) (W0 := w4) (by assumption))) (HST.out.trans ((held3' (N := w4.heap.size) (W0 := w4) (by assumption)).mono HST.out.size))).mono ?_; rintro e5 w5 ⟨vy, rfl, hRy, hB5⟩; have hK5 := held_any (held3' (N := w4.heap.size) (W0 := w4) (by assumption)) hB5)
            | (go_at_call 83; refine (HCm.out _ _ hRy (HST.out.trans (hK5.mono HST.out.size))).mono ?_; rintro e6 w6 ⟨rfl, q, rfl⟩; have hK6 := held_any hK5 (below_drewN (Below.refl w5.heap.size w5) q)))
        rename_i hHeld
        clear hHeld
        generalize w5.drewN q = w6 at *
        replace HRf := hid (HRf.out.below hK6)
        replace HRr := hid (HRr.out.below hK6)
        replace HRx := hid (HRx.out.below hK6)
        replace HST := hid (HST.out.trans (hK6.mono HST.out.size))
        clear hK5 hK6 hB5 hRy HS8
        by_cases h2 : (nn / dd + 1) * ee ≤ mm
        · have d1 : decide (cm ≤ 0) = true := decide_eq_true (HCP.out.2 h2)
          rw [d1]
          have hsp := HK.out.2.2.2.2.2.2.1 H0.out h2
          obtain ⟨x0, x1, x2, _⟩ := (HBX.out.2.2.1.below HST.out).cells
          obtain ⟨y0, y1, y2, _⟩ := (HBX.out.2.2.2.below HST.out).cells
          have HF1 := hid (HFo.out _ HB4.out.2 w6 _ HST.out HRx.out)
          have HFin : Hid (((spl n d m e).1 = (nn / dd + 1) * a1 + a0) ∧ ((spl n d m e).2 = (nn / dd + 1) * b1 + b0)) := by
            have h1 := HK.out.2.2.2.1
            have h2 := HK.out.2.2.2.2.1
            rw [hsp] at h1 h2
            exact hid ⟨by rw [h1, Nat.mul_comm a1, Nat.mul_one], by rw [h2, Nat.mul_comm b1, Nat.mul_one]⟩
          clear hsp h2 d1
          go_wp2_with fail
          refine HF1.out.mono ?_
          rintro e7 w7 ⟨v4, rfl, ⟨vn, vd, rfl, hn4, hd4⟩, hB4⟩
          have hVR := HVR.out.below (HST.out.trans (hB4.mono HST.out.size))
          have HF4 := hid (And.intro hn4 (And.intro hd4 (HBz.out.trans ((HST.out.trans (hB4.mono HST.out.size)).mono HBz.out.size))))
          have HVR4 := hid hVR
          obtain ⟨pn, kn, cn, rfl, _⟩ := hn4
          obtain ⟨pd, kd, cd, rfl, _⟩ := hd4
          obtain ⟨z0, z1, z2, m0, m1, m2⟩ := hVR.cells
          clear x0 x1 x2 y0 y1 y2 hB4 hVR
          go_wp2_with fail
          exact simplest_ret rfl (HVR4.out.store trivial trivial trivial) ⟨_, rfl, ⟨_, _, rfl, by rw [HFin.out.1]; exact HF4.out.1.store3 HVR4.out _ _ _, by rw [HFin.out.2]; exact HF4.out.2.1.store3 HVR4.out _ _ _⟩, below_set3 HF4.out.2.2 (by show w.heap.size ≤ w.heap.size + 1 + 1; omega)⟩
        · have d1 : decide (cm ≤ 0) = false := decide_eq_false (fun hh => h2 (HCP.out.1 hh))
          rw [d1]
          have H2 := hid h2
          clear h2 d1
          have HD := hid ((Below.refl w6.heap.size w6).drew)
          have hAO := HN.out.2.2.2.2.2.2.2.2.2
          have hOA := Ne.symm HN.out.2.2.2.2.2.2.2.2.2
          obtain ⟨x0, x1, x2, x3, x4, x5⟩ := (HBX.out.2.2.1.below HST.out).cells
          obtain ⟨y0, y1, y2, y3, y4, y5⟩ := (HBX.out.2.2.2.below HST.out).cells
          go_wp2_with fail
          go_region_with (first
            | (go_at_call 119; refine (HFo.out _ (lt_pow HB4.out.1 (by omega)) _ _ (HST.out.trans (HD.out.mono HST.out.size)) (HRf.out.below HD.out)).mono ?_; rintro e7 w7 ⟨v7, rfl, ⟨vn, vd, rfl, hn7, hd7⟩, hB7⟩; have HR7 := hid (And.intro hn7 hd7); obtain ⟨pn, kn, cn, rfl, _⟩ := hn7; obtain ⟨pd, kd, cd, rfl, _⟩ := hd7; have hK7 := held_any HD.out hB7; obtain ⟨u0, u1, u2, u3, u4, u5⟩ := ((HBX.out.2.2.1.below HST.out).below hK7).cells; obtain ⟨v0, v1, v2, v3, v4, v5⟩ := ((HBX.out.2.2.2.below HST.out).below hK7).cells))
          all_goals
            have hstx := HST.out.trans (hK7.mono HST.out.size)
            have hVA7 := HBX.out.2.2.1.below hstx
            have hVO7 := HBX.out.2.2.2.below hstx
            have fL7 : FBox w7 L nn dd := ⟨_, _, _, _, _, _, HBX.out.1.below hstx, HRP.out.1.1.below hstx, HRP.out.1.2.below hstx⟩
            have hLv := HBX.out.1.below hstx
            have hHv := HBX.out.2.1.below hstx
            have hL2 := HRP.out.1.2.below hstx
            have hH1 := HRP.out.2.1.1.below hstx
            have hH2 := HRP.out.2.1.2.below hstx
            have hVR7 := HVR.out.below hstx
            have hO1 := HRP.out.2.2.2.1.below hstx
            have hO2 := HRP.out.2.2.2.2.below hstx
            have hf7 := HRf.out.below hK7
            have hr7 := HRr.out.below hK7
            have hB7w := HBW.out.trans (hstx.mono HBW.out.size)
            have hRlt : w.heap.size + 1 + 1 < w1.heap.size := by obtain ⟨_, h0, _⟩ := HV.out.1.2.2; exact (Array.getElem?_eq_some_iff.1 h0).1
            obtain ⟨n1, n2, n3, n4, n5, n6, n7, n8, n9, n10⟩ := HN.out
            have fA := FBox.set hVA7 hO1 hO2
            replace hVO7 := hVO7.other (Ne.symm n10) (.bool false) (.slice q7 j7 i7) (.slice q8 j8 i8)
            replace hLv := hLv.other n6 (.bool false) (.slice q7 j7 i7) (.slice q8 j8 i8)
            replace hHv := hHv.other n8 (.bool false) (.slice q7 j7 i7) (.slice q8 j8 i8)
            replace hVR7 := hVR7.other (show w.heap.size + 1 + 1 ≠ A1 by omega) (.bool false) (.slice q7 j7 i7) (.slice q8 j8 i8)
            replace hL2 := hL2.store3 hVA7 (.bool false) (.slice q7 j7 i7) (.slice q8 j8 i8)
            replace hH1 := hH1.store3 hVA7 (.bool false) (.slice q7 j7 i7) (.slice q8 j8 i8)
            replace hH2 := hH2.store3 hVA7 (.bool false) (.slice q7 j7 i7) (.slice q8 j8 i8)
            have hn8 := HR7.out.1.store3 hVA7 (.bool false) (.slice q7 j7 i7) (.slice q8 j8 i8)
            have hd8 := HR7.out.2.store3 hVA7 (.bool false) (.slice q7 j7 i7) (.slice q8 j8 i8)
            replace hf7 := hf7.store3 hVA7 (.bool false) (.slice q7 j7 i7) (.slice q8 j8 i8)
            replace hr7 := hr7.store3 hVA7 (.bool false) (.slice q7 j7 i7) (.slice q8 j8 i8)
            replace hB7w : Below w1.heap.size w1 (((w7.setCell ⟨A1, 0, none⟩ (.bool false)).setCell ⟨A1, 1, none⟩ (.slice q7 j7 i7)).setCell ⟨A1, 2, none⟩ (.slice q8 j8 i8)) := below_set3 hB7w n3
            clear hVA7 hO1 hO2 hstx fL7 hB7 hK7 HR7 x0 x1 x2 x3 x4 x5 y0 y1 y2 y3 y4 y5 u0 u1 u2 u3 u4 u5 v0 v1 v2 v3 v4 v5
            generalize (((w7.setCell ⟨A1, 0, none⟩ (.bool false)).setCell ⟨A1, 1, none⟩ (.slice q7 j7 i7)).setCell ⟨A1, 2, none⟩ (.slice q8 j8 i8)) = wa at *
            have fO := FBox.set hVO7 hn8 hd8
            replace fA := fA.other hVO7 n10 (.bool false) (.slice pn kn cn) (.slice pd kd cd)
            replace hLv := hLv.other n7 (.bool false) (.slice pn kn cn) (.slice pd kd cd)
            replace hHv := hHv.other n9 (.bool false) (.slice pn kn cn) (.slice pd kd cd)
            replace hVR7 := hVR7.other (show w.heap.size + 1 + 1 ≠ A2 by omega) (.bool false) (.slice pn kn cn) (.slice pd kd cd)
            replace hL2 := hL2.store3 hVO7 (.bool false) (.slice pn kn cn) (.slice pd kd cd)
            replace hH1 := hH1.store3 hVO7 (.bool false) (.slice pn kn cn) (.slice pd kd cd)
            replace hH2 := hH2.store3 hVO7 (.bool false) (.slice pn kn cn) (.slice pd kd cd)
            replace hf7 := hf7.store3 hVO7 (.bool false) (.slice pn kn cn) (.slice pd kd cd)
            replace hr7 := hr7.store3 hVO7 (.bool false) (.slice pn kn cn) (.slice pd kd cd)
            replace hB7w : Below w1.heap.size w1 (((wa.setCell ⟨A2, 0, none⟩ (.bool false)).setCell ⟨A2, 1, none⟩ (.slice pn kn cn)).setCell ⟨A2, 2, none⟩ (.slice pd kd cd)) := below_set3 hB7w n4
            clear hVO7 hn8 hd8
            generalize (((wa.setCell ⟨A2, 0, none⟩ (.bool false)).setCell ⟨A2, 1, none⟩ (.slice pn kn cn)).setCell ⟨A2, 2, none⟩ (.slice pd kd cd)) = wb at *
            obtain ⟨k1', k2', k3', k4', k5', k6'⟩ := HK.out.2.2.2.2.2.2.2.2 H0.out H2.out
            have HMl := hid (fun (W : World) (hW : Below wb.heap.size wb W) => Mul_any _ _ (nn / dd) ee W (hf7.below hW) (hH2.below hW) (lt_big HMf.out.1 (by have := HMf.out.2.2; omega)) (lt_big HMf.out.2.1.2.2.2 (by have := HMf.out.2.2; omega)))
            have HSu := hid (fun (W : World) (v1 : Value) (h1 : Rep W32 W v1 (nn / dd * ee)) (hW : Below wb.heap.size wb W) => Sub_any _ v1 mm (nn / dd * ee) W (hH1.below hW) h1 (lt_big HMf.out.2.1.2.2.1 (by have := HMf.out.2.2; omega)) k1')
            have HWB := hid (And.intro fA (And.intro fO (And.intro hLv (And.intro hHv (And.intro hVR7 (And.intro hB7w (And.intro hL2 (And.intro hH2 hr7))))))))
            clear fA fO hLv hHv hVR7 hB7w hL2 hH1 hH2 hf7 hr7 n1 n2 n3 n4 n5 n6 n7 n8 n9 n10 k1' k2' k3' k4' k5' k6' hAO hOA hRlt
            have HS11 : Hid (∀ w', Below wb.heap.size wb w' → (w'.cell? ⟨H, 0, none⟩ = some (.bool false) ∧ w'.cell? ⟨H, 1, none⟩ = some (.slice q3 j3 i3) ∧ w'.cell? ⟨H, 2, none⟩ = some (.slice q4 j4 i4) ∧ Hid (Below wb.heap.size wb w'))) :=
              hid fun w' hb => ⟨(HWB.out.2.2.2.1.below hb).cells.1, (HWB.out.2.2.2.1.below hb).cells.2.1, (HWB.out.2.2.2.1.below hb).cells.2.2.1, hid hb⟩
            go_wp2_with fail
            go_region_held3 (fun w' => w'.cell? ⟨H, 0, none⟩ = some (.bool false) ∧ w'.cell? ⟨H, 1, none⟩ = some (.slice q3 j3 i3) ∧ w'.cell? ⟨H, 2, none⟩ = some (.slice q4 j4 i4) ∧ Hid (Below wb.heap.size wb w'))
              (first | exact HS11.out _ (Below.refl _ _).drew | (exact HS11.out _ (by assumption)))
              (first
                | (go_at_call 82; refine (HMl.out _ (held3' (N := wb.heap.size) (W0 := wb) (by assumption))).mono ?_; rintro e8 w8 ⟨v8, rfl, hR8, hB8⟩; have hK8 := held_any (held3' (N := wb.heap.size) (W0 := wb) (by assumption)) hB8)
                | (go_at_call 103; refine (HSu.out _ _ hR8 hK8).mono ?_; rintro e9 w9 ⟨v9, rfl, hR9, hB9⟩; have hK9 := held_any hK8 hB9; have HR9 := hid hR9; obtain ⟨pl, kl, cl, rfl, _⟩ := hR9))
            rename_i hHeld
            clear hHeld hK8 hB8 hR8 hB9 HS11 HMl HSu
            have hLv := HWB.out.2.2.1.below hK9
            have hHv := HWB.out.2.2.2.1.below hK9
            have HLH9 := hid (And.intro hLv hHv)
            obtain ⟨x0, x1, x2, x3, x4, x5⟩ := hLv.cells
            obtain ⟨y0, y1, y2, y3, y4, y5⟩ := hHv.cells
            have hLH := HN.out.2.2.2.2.1
            have hHL := Ne.symm HN.out.2.2.2.2.1
            clear hLv hHv
            go_wp2_with fail
            go_roundg (mm - nn / dd * ee + nn % dd)
            case measure =>
              have k := HK.out.2.2.2.2.2.2.2.2 H0.out H2.out
              have := HK.out.1
              omega
            case rel => exact srel_next HN.out HWB.out.1 HWB.out.2.1 HWB.out.2.2.2.2.2.1 HWB.out.2.2.2.2.2.2.1 HWB.out.2.2.2.2.2.2.2.1 HWB.out.2.2.2.2.2.2.2.2 hK9 HR9.out HLH9.out.1 HLH9.out.2 HK.out.2.2.1 HK.out.2.1 HK.out.2.2.2.1 HK.out.2.2.2.2.1 H0.out H2.out
end Go.Proofs.YtppllgnoniaafaaDoor
