/- The law NumberCanons; what the other laws with an answer of the document share. -/
import Derived.Test.YtdinpeglclkjhaaDoorLawB
namespace Go.Proofs.YtdinpeglclkjhaaDoor
open Go.RowKit Dg

/-- The result as the law takes it: a normalized value. -/
def URF (w : World) (e : Ending) (c : Int) (r : Bool × Nat × Nat) : Prop :=
  ∃ sg pa ka ca pb kb cb, e = .returned (.tuple #[.agg #[.bool sg, .slice pa ka ca, .slice pb kb cb], .int .i64 c]) ∧ Hid (FNorm w (.agg #[.bool sg, .slice pa ka ca, .slice pb kb cb]) r)
theorem FRes.uniF {w : World} {e : Ending} {c : Int} {t : Bool × Nat × Nat} (h : FRes w e c (outF t)) : URF w e c (resT c t) := by
  rcases h with ⟨h0, rfl⟩ | ⟨rfl, sg, pa, ka, ca, pb, kb, cb, rfl, hF⟩
  · refine ⟨false, none, 0, 0, none, 0, 0, rfl, hid ?_⟩
    rw [resT, if_neg h0]
    exact ⟨_, _, rfl, Rep.nil, Rep.nil⟩
  · refine ⟨sg, pa, ka, ca, pb, kb, cb, rfl, hid ?_⟩
    rw [resT, if_pos rfl]
    exact hF.out
theorem ucode_fr {s : Bool} {n d : Nat} : ucode n d 0 (frac s n (den1 d)) = if large n d then 1 else 0 := by
  unfold ucode
  cases hL : large n d
  · have h2 : big (n / Nat.gcd n (den1 d)) (den1 d / Nat.gcd n (den1 d)) = false := by
      unfold large at hL
      exact (Bool.or_eq_false_iff.1 hL).2
    show (if false = true then (1 : Int) else if (0 : Int) ≠ 0 then 0 else if big (n / Nat.gcd n (den1 d)) (den1 d / Nat.gcd n (den1 d)) = true then 1 else 0) = _
    rw [h2]
    rfl
  · rfl
theorem frac_pos {s : Bool} {n d : Nat} (hd : 0 < d) : 0 < (frac s n d).2.2 := Nat.div_pos (Nat.le_of_dvd hd (Nat.gcd_dvd_right _ _)) (Nat.gcd_pos_of_pos_right _ hd)
theorem rat_out {t : Bool × Nat × Nat} (hd : 0 < t.2.2) (hz : t.2.1 = 0 → t.1 = false) : (t.1 && decide (t.2.1 ≠ 0), t.2.1, den0' t.2.2) = outF t := by
  unfold outF den0 den0'
  have e1 : (t.1 && decide (t.2.1 ≠ 0)) = t.1 := by
    by_cases h : t.2.1 = 0
    · rw [hz h]; rfl
    · simp [h]
  rw [e1]
  by_cases h : t.2.2 = 1
  · rw [if_pos (by omega), if_pos h]
  · rw [if_neg (by omega), if_neg h]
/-- Rat of a reduced fraction is its canonical value. -/
theorem rRatF_any (v : Value) (t : Bool × Nat × Nat) (w : World) (h : QNorm w v t) (hn : t.2.1 < B16 ^ 1000000000) (hd : t.2.2 < B16 ^ 1000000000) (hp : 0 < t.2.2) (hz : t.2.1 = 0 → t.1 = false) :
    Calls Tryd.prog 20 #[v] w fun e w' => ∃ sg pa ka ca pb kb cb, e = .returned (.agg #[.bool sg, .slice pa ka ca, .slice pb kb cb]) ∧ Hid (FNorm w' (.agg #[.bool sg, .slice pa ka ca, .slice pb kb cb]) (outF t)) ∧ Below w.heap.size w w' := by
  refine fopen (t := outF t) ?_
  refine (rRat_any v _ _ _ w h hn hd).mono ?_
  rintro e w' ⟨v', he, hF, hB⟩
  exact ⟨v', he, by rw [← rat_out hp hz]; exact hF, hB⟩
theorem frac_gcd {s : Bool} {n d : Nat} (hd : 0 < d) : Nat.gcd (frac s n d).2.1 (frac s n d).2.2 = 1 := by
  have hg0 : 0 < Nat.gcd n d := Nat.gcd_pos_of_pos_right _ hd
  show Nat.gcd (n / Nat.gcd n d) (d / Nat.gcd n d) = 1
  have h1 := Nat.mul_div_cancel' (Nat.gcd_dvd_left n d)
  have h2 := Nat.mul_div_cancel' (Nat.gcd_dvd_right n d)
  have h3 : Nat.gcd n d * Nat.gcd (n / Nat.gcd n d) (d / Nat.gcd n d) = Nat.gcd n d * 1 := by
    rw [← Nat.gcd_mul_left, h1, h2, Nat.mul_one]
  exact Nat.eq_of_mul_eq_mul_left hg0 h3
/-- The canonical value of a fraction. -/
theorem canon_out {s : Bool} {n d : Nat} (hd : 0 < d) : Canon (outF (frac s n d)).1 (outF (frac s n d)).2.1 (outF (frac s n d)).2.2 := by
  have hp := frac_pos (s := s) (n := n) hd
  have hz := frac_zero_sign (s := s) (n := n) hd
  have hd1 : den1 (den0 (frac s n d).2.2) = (frac s n d).2.2 := by unfold den1 den0; by_cases h : (frac s n d).2.2 = 1 <;> simp [h] <;> omega
  refine ⟨?_, ?_⟩
  · show mkq (frac s n d).1 (frac s n d).2.1 (den1 (den0 (frac s n d).2.2)) = (_, _, den1 (den0 (frac s n d).2.2))
    rw [hd1]
    by_cases h0 : (frac s n d).2.1 = 0
    · have hn : n = 0 := by
        have h1 : n / Nat.gcd n d = 0 := h0
        have := Nat.div_mul_cancel (Nat.gcd_dvd_left n d)
        rw [h1, Nat.zero_mul] at this
        exact this.symm
      have hs := hz h0
      have h2 : (frac s n d).2.2 = 1 := by
        show d / Nat.gcd n d = 1
        rw [hn, Nat.gcd_zero_left, Nat.div_self hd]
      show mkq (frac s n d).1 (frac s n d).2.1 (frac s n d).2.2 = ((frac s n d).1, (frac s n d).2.1, (frac s n d).2.2)
      rw [h0, hs, h2]
      rfl
    · unfold mkq
      rw [if_neg (by omega)]
      have hg : Nat.gcd (frac s n d).2.1 (frac s n d).2.2 = 1 := frac_gcd hd
      show ((frac s n d).1 && decide ((frac s n d).2.1 ≠ 0), (frac s n d).2.1 / Nat.gcd (frac s n d).2.1 (frac s n d).2.2, (frac s n d).2.2 / Nat.gcd (frac s n d).2.1 (frac s n d).2.2) = _
      rw [hg, Nat.div_one, Nat.div_one, decide_eq_true h0, Bool.and_true]
      rfl
  · show den0 _ ≠ 1
    unfold den0
    split
    · decide
    · assumption
theorem fr_bd {a : Bool × Nat × Nat} (h : large a.2.1 a.2.2 = false) : (fr a).2.1 < W32 ^ 64 ∧ (fr a).2.2 < W32 ^ 64 := large_bd h
theorem few_out {t : Bool × Nat × Nat} (h1 : t.2.1 < W32 ^ 64) (h2 : t.2.2 < W32 ^ 64) : Few (outF t) := by
  have hw : W32 ^ 64 ≤ W32 ^ 256 := Nat.pow_le_pow_right W32_pos (by omega)
  have hd : den0 t.2.2 < W32 ^ 64 := by unfold den0; split; exact Nat.lt_of_le_of_lt (Nat.zero_le _) h2; exact h2
  exact ⟨Nat.lt_of_lt_of_le h1 hw, Nat.lt_of_lt_of_le hd hw⟩
theorem b16_64 {x : Nat} (h : x < W32 ^ 64) : x < B16 ^ 1000000000 := lt_W_B' h (by omega)
theorem rOfF_any (v : Value) (a : Bool × Nat × Nat) (w : World) (h : NRep w v a) (hL : large a.2.1 a.2.2 = false) :
    Calls Tryd.prog 21 #[v] w fun e w' => ∃ sg pa ka ca pb kb cb, e = .returned (.agg #[.bool sg, .slice pa ka ca, .slice pb kb cb]) ∧ Hid (QNorm w' (.agg #[.bool sg, .slice pa ka ca, .slice pb kb cb]) (fr a)) ∧ Below w.heap.size w w' := by
  refine qopen (t := fr a) ?_
  have hf := few_large hL
  have h := rOf_any v _ _ _ w h (few_make hf.1 hf.2)
  rw [mkq_fr] at h
  exact h

set_option maxHeartbeats 8000000 in
set_option maxRecDepth 100000 in
theorem NumberCanons_any (vx : Value) (x : Bool × Nat × Nat) (w : World) (hx : NRep w vx x) (ht : TabOk w) :
    Calls Tryd.prog 3 #[vx] w fun e w' => e = .returned (.bool true) ∧ Below w.heap.size w w' := by
  have HX := hid hx
  obtain ⟨_, _, rfl, ⟨pa, ka, ca, rfl, _⟩, ⟨pb, kb, cb, rfl, _⟩⟩ := hx
  obtain ⟨sx, hsx⟩ : ∃ s, s = x.1 := ⟨_, rfl⟩
  have hal := (Below.refl w.heap.size w).alloc (Nat.le_refl _) (.cells #[.bool sx, .slice pa ka ca, .slice pb kb cb] 24)
  have hV := Var3.alloc w (x := .bool sx) (y := .slice pa ka ca) (z := .slice pb kb cb) 24 trivial trivial trivial
  rw [← hsx] at HX ⊢
  clear hsx
  have HX0 := hid (HX.out.below hal)
  have HT0 := hid (ht.below hal)
  have HB := hid hal
  have hC := hid (nCanon_any _ _ _ _ _ HX0.out HT0.out)
  clear HX ht hal
  go_enter Tryd.func3, Tryd.ntmps3
  go_upto_region 1 with fail
  generalize w.alloc (.cells #[.bool sx, .slice pa ka ca, .slice pb kb cb] 24) = W0 at *
  obtain ⟨a0, a1, a2, _⟩ := hV.cells
  have HV := hid hV
  clear hV
  go_wp2_with fail
  refine hC.out.mono ?_
  rintro e w1 ⟨hB1, hR⟩
  have hR := hR.uniF
  rw [ucode_fr] at hR
  obtain ⟨sy, qa, la, da, qb, lb, db, rfl, hF⟩ := hR
  clear hC a0 a1 a2
  obtain ⟨c, hc⟩ : ∃ c : Int, c = if large x.2.1 x.2.2 then 1 else 0 := ⟨_, rfl⟩
  rw [← hc] at hF ⊢
  have HCc := hid hc
  clear hc
  go_upto_region 2 with fail
  have hal := (Below.refl w1.heap.size w1).alloc (Nat.le_refl _) (.cells #[.bool sy, .slice qa la da, .slice qb lb db] 24)
  have hVy := Var3.alloc w1 (x := .bool sy) (y := .slice qa la da) (z := .slice qb lb db) 24 trivial trivial trivial
  have hst := held_any hB1 hal
  have HFy := hid (hF.out.below hal)
  clear hB1 hal hF
  generalize w1.alloc (.cells #[.bool sy, .slice qa la da, .slice qb lb db] 24) = W1 at *
  generalize w1.heap.size = Y at *
  replace HV := hid (HV.out.below hst)
  replace HX0 := hid (HX0.out.below hst)
  replace HT0 := hid (HT0.out.below hst)
  replace HB := hid (HB.out.trans (hst.mono HB.out.size))
  have HVy := hid hVy
  clear hst hVy
  obtain ⟨a0, a1, a2, _⟩ := HV.out.cells
  have hLg := hid (Large_any _ x W1 HX0.out)
  go_wp2_with fail
  refine hLg.out.mono ?_
  rintro e w2 ⟨rfl, hst⟩
  clear a0 a1 a2 hLg
  replace HV := hid (HV.out.below hst)
  replace HVy := hid (HVy.out.below hst)
  replace HX0 := hid (HX0.out.below hst)
  replace HT0 := hid (HT0.out.below hst)
  replace HFy := hid (HFy.out.below hst)
  replace HB := hid (HB.out.trans (hst.mono HB.out.size))
  clear hst
  cases hL : large x.2.1 x.2.2
  · have hc := HCc.out
    rw [hL, if_neg (by decide)] at hc
    subst hc
    have HFz : Hid (FNorm w2 (.agg #[.bool sy, .slice qa la da, .slice qb lb db]) (outF (fr x))) := HFy
    have HO := hid (fun (W : World) (hW : Below w2.heap.size w2 W) => rOfF_any _ x W (HX0.out.below hW) hL)
    have HRt := hid (fun (W : World) (v : Value) (hq : QNorm W v (fr x)) => rRatF_any v (fr x) W hq (b16_64 (fr_bd hL).1) (b16_64 (fr_bd hL).2) (frac_pos (den1_pos _)) (frac_zero_sign (den1_pos _)))
    have HI := hid (fun (W : World) (v : Value) (hW : Below w2.heap.size w2 W) (hv : FNorm W v (outF (fr x))) => Is_ok _ v (outF (fr x)) W (HFz.out.below hW) hv (canon_out (den1_pos _)) (few_out (fr_bd hL).1 (fr_bd hL).2))
    have HAw := hid (fun (W : World) (hW : Below w2.heap.size w2 W) => awake_any W (HT0.out.below hW))
    have HS : Hid (∀ w', Below w2.heap.size w2 w' → (w'.cell? ⟨w.heap.size, 0, none⟩ = some (.bool sx) ∧ w'.cell? ⟨w.heap.size, 1, none⟩ = some (.slice pa ka ca) ∧ w'.cell? ⟨w.heap.size, 2, none⟩ = some (.slice pb kb cb) ∧ w'.cell? ⟨Y, 0, none⟩ = some (.bool sy) ∧ w'.cell? ⟨Y, 1, none⟩ = some (.slice qa la da) ∧ w'.cell? ⟨Y, 2, none⟩ = some (.slice qb lb db) ∧ Hid (Below w2.heap.size w2 w'))) :=
      hid fun w' hb => ⟨(HV.out.below hb).cells.1, (HV.out.below hb).cells.2.1, (HV.out.below hb).cells.2.2.1, (HVy.out.below hb).cells.1, (HVy.out.below hb).cells.2.1, (HVy.out.below hb).cells.2.2.1, hid hb⟩
    clear hL HCc HV HVy HX0 HT0 HFy HFz
    go_upto_region 4 with fail
    go_region_held3 (fun w' => w'.cell? ⟨w.heap.size, 0, none⟩ = some (.bool sx) ∧ w'.cell? ⟨w.heap.size, 1, none⟩ = some (.slice pa ka ca) ∧ w'.cell? ⟨w.heap.size, 2, none⟩ = some (.slice pb kb cb) ∧ w'.cell? ⟨Y, 0, none⟩ = some (.bool sy) ∧ w'.cell? ⟨Y, 1, none⟩ = some (.slice qa la da) ∧ w'.cell? ⟨Y, 2, none⟩ = some (.slice qb lb db) ∧ Hid (Below w2.heap.size w2 w'))
      (first | exact HS.out _ (Below.refl _ _).drew | (exact HS.out _ (by assumption)))
      (first
        | (go_at_call 21; refine (HO.out _ (held6 (N := w2.heap.size) (W0 := w2) (by assumption))).mono ?_; rintro e wo ⟨so, po, ko, co, ro, lo, do', rfl, hQo, hBo⟩; have hKo := held_any (held6 (N := w2.heap.size) (W0 := w2) (by assumption)) hBo)
        | (go_at_call 20; refine (HRt.out _ _ hQo.out).mono ?_; rintro e wr ⟨sr, pr, kr, cr, rr, lr, dr, rfl, hFr, hBr⟩; have hKr := held_any (held6 (N := w2.heap.size) (W0 := w2) (by assumption)) hBr)
        | (go_at_call 19; refine (HI.out _ _ (held6 (N := w2.heap.size) (W0 := w2) (by assumption)) hFr.out).mono ?_; rintro e wi ⟨rfl, hBi⟩; have hKi := held_any (held6 (N := w2.heap.size) (W0 := w2) (by assumption)) hBi)
        | (go_at_call 18; refine (HAw.out _ (held6 (N := w2.heap.size) (W0 := w2) (by assumption))).mono ?_; rintro e wz ⟨rfl, hBz⟩; have hKz := held_any (held6 (N := w2.heap.size) (W0 := w2) (by assumption)) hBz))
    all_goals
      rename_i hHeld
      have HZ := hid (HB.out.trans ((held6 (N := w2.heap.size) (W0 := w2) hHeld).mono HB.out.size))
      clear hHeld
      go_wp2_with fail
      go_ret
      exact ⟨rfl, HZ.out⟩
  · have hc := HCc.out
    rw [hL, if_pos rfl] at hc
    subst hc
    have HFz : Hid (FNorm w2 (.agg #[.bool sy, .slice qa la da, .slice qb lb db]) (false, 0, 0)) := HFy
    have HN := hid (fun (W : World) (hW : Below w2.heap.size w2 W) => None_any _ W (HFz.out.below hW))
    have HAw := hid (fun (W : World) (hW : Below w2.heap.size w2 W) => awake_any W (HT0.out.below hW))
    obtain ⟨a0, a1, a2, _⟩ := HVy.out.cells
    clear hL HCc
    go_wp2_with fail
    refine (HN.out _ (Below.refl _ _)).mono ?_
    rintro e w3 ⟨rfl, hB3⟩
    clear a0 a1 a2
    go_wp2_with fail
    refine (HAw.out _ hB3).mono ?_
    rintro e w4 ⟨rfl, hB4⟩
    have HZ := hid (HB.out.trans ((held_any hB3 hB4).mono HB.out.size))
    clear hB3 hB4 HN HAw
    go_wp2_with fail
    go_ret
    exact ⟨rfl, HZ.out⟩
end Go.Proofs.YtdinpeglclkjhaaDoor
