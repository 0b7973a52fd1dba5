/- Texts of numbers of the specification: Text, Format; the law NumberFormats. -/
import Derived.Test.YtjnfnngobkjneaaDoorStrF
import Derived.Test.YtjnfnngobkjneaaDoorStrR
import Derived.Test.YtjnfnngobkjneaaDoorRefY
namespace Go.Proofs.YtjnfnngobkjneaaDoor
open Go.RowKit Dg Dc

theorem w32_b16 (m : Nat) : W32 ^ m = B16 ^ (2 * m) := by
  rw [Nat.pow_mul]
  congr 1
theorem lt_2k {x a : Nat} (h : x < B16 ^ a) (hab : a ≤ 2000) : x < B16 ^ 2000 := by
  revert hab
  generalize 2000 = b
  intro hab
  exact Nat.lt_of_lt_of_le h (Nat.pow_le_pow_right B16_pos hab)
theorem natText_s (va : Value) (x m : Nat) (w : World) (ha : Rep B16 w va x) (hx : x < W32 ^ m) (hm : m ≤ 1000) :
    Calls Tryd.prog 75 #[va] w fun e w' => ∃ s : ByteArray, e = .returned (.string s) ∧ s.size ≤ 1000000 ∧ Hid (s = ⟨(Lib.decDigits x).toArray⟩) ∧ Below w.heap.size w w' :=
  (natText_any va x w ha (lt_2k (a := 2 * m) (by rw [← w32_b16]; exact hx) (by omega))).mono fun _ _ h => ⟨_, h.1, by
    rw [str_size]
    exact Nat.le_trans (dec_len (lt_powk hx (Nat.le_succ_of_le hm)) (by decide)) (by decide), hid rfl, h.2⟩

set_option maxHeartbeats 4000000 in
set_option maxRecDepth 100000 in
theorem rText_any (v : Value) (t : Bool × Nat × Nat) (m : Nat) (w : World) (h : QNorm w v t) (hn : t.2.1 < W32 ^ m) (hd : t.2.2 < W32 ^ m) (hm : m ≤ 1000) (h0 : 0 < t.2.2) :
    Calls Tryd.prog 39 #[v] w fun e w' => e = .returned (str (ftxt t)) ∧ Below w.heap.size w w' := by
  obtain ⟨sf, nf, df⟩ := t
  have Hft := hid (show ftxt (sf, nf, df) = ((if sf then [45] else []) ++ Lib.decDigits nf) ++ (if df = 1 then [] else 47 :: Lib.decDigits df) from rfl)
  simp only at hn hd h0
  obtain ⟨vn, vd, rfl, h1, h2⟩ := h
  simp only at h1 h2
  have HR := hid (And.intro h1 h2)
  have HM := hid (And.intro hn (And.intro hd hm))
  obtain ⟨p1, k1, c1, rfl, _, _, _⟩ := h1
  obtain ⟨p2, k2, c2, rfl, _, _, _⟩ := h2
  have hal := (Below.refl w.heap.size w).alloc (Nat.le_refl _) (.cells #[.bool sf, .slice p1 k1 c1, .slice p2 k2 c2] 53)
  have HV := hid (Var3.alloc w (x := .bool sf) (y := .slice p1 k1 c1) (z := .slice p2 k2 c2) 53 trivial trivial trivial)
  replace HR := hid (And.intro (HR.out.1.below hal) (HR.out.2.below hal))
  have HB := hid hal
  clear hn hd hm hal
  go_enter Tryd.func39, Tryd.ntmps39
  go_upto_region 1 with fail
  generalize w.alloc (.cells #[.bool sf, .slice p1 k1 c1, .slice p2 k2 c2] 53) = W0 at *
  obtain ⟨x0, x1, x2, _⟩ := HV.out.cells
  go_wp2_with fail
  refine (natText_s _ nf m W0 HR.out.1 HM.out.1 HM.out.2.2).mono ?_
  rintro e w1 ⟨s4, rfl, hs4, Hs4, hB1⟩
  replace HB := hid (HB.out.trans (hB1.mono HB.out.size))
  replace HV := hid (HV.out.below hB1)
  replace HR := hid (And.intro (HR.out.1.below hB1) (HR.out.2.below hB1))
  clear hB1 x0 x1 x2
  have HW : ∃ T : ByteArray, T.size ≤ 1000001 ∧ Hid (T = ⟨((if sf then [45] else []) ++ Lib.decDigits nf).toArray⟩) ∧ T = (if sf then (⟨#[45]⟩ : ByteArray) ++ s4 else s4) := by
    cases sf
    · exact ⟨s4, by omega, hid (by rw [Hs4.out]; rfl), rfl⟩
    · refine ⟨⟨#[45]⟩ ++ s4, ?_, hid (by rw [Hs4.out]; exact str_append [45] _), rfl⟩
      rw [Hs4.out]
      rw [Hs4.out] at hs4
      rw [show (⟨#[45]⟩ : ByteArray) = ⟨[45].toArray⟩ from rfl, str_append, str_size] at *
      simp; omega
  obtain ⟨T, hT, HT', hTe⟩ := HW
  have HI := hid (whole_any (.agg #[.bool sf, .slice p1 k1 c1, .slice p2 k2 c2]) sf nf df w1 ⟨_, _, rfl, HR.out.1, HR.out.2⟩)
  cases sf
  all_goals
    first
      | rw [if_pos rfl] at hTe
      | rw [if_neg (by decide)] at hTe
    obtain ⟨x0, x1, x2, _⟩ := HV.out.cells
    go_upto_region 4 with fail
    first
      | (rw [← hTe]; clear hTe)
      | subst hTe
    have hI := HI.out
    clear HI
    by_cases hd : df = 1
    · rw [decide_eq_true (show df ≤ 1 by omega)] at hI
      have HE := hid (show (⟨(ftxt _).toArray⟩ : ByteArray) = T by rw [Hft.out, if_pos hd, List.append_nil]; exact HT'.out.symm)
      clear hd
      go_wp2_with fail
      refine hI.mono ?_
      clear hI
      rintro e w7 ⟨rfl, hB7⟩
      replace HB := hid (HB.out.trans (hB7.mono HB.out.size))
      clear hB7 x0 x1 x2
      go_wp2_with fail
      go_ret
      exact ⟨by rw [str, HE.out]; rfl, HB.out⟩
    · rw [decide_eq_false (show ¬ df ≤ 1 by omega)] at hI
      have HE := hid hd
      clear hd
      go_wp2_with fail
      refine hI.mono ?_
      clear hI
      rintro e w7 ⟨rfl, hB7⟩
      replace HB := hid (HB.out.trans (hB7.mono HB.out.size))
      replace HV := hid (HV.out.below hB7)
      replace HR := hid (And.intro (HR.out.1.below hB7) (HR.out.2.below hB7))
      clear hB7 x0 x1 x2
      obtain ⟨x0, x1, x2, _⟩ := HV.out.cells
      have h47 : (T ++ (⟨#[47]⟩ : ByteArray)).size ≤ 1000002 := by
        rw [HT'.out]
        rw [HT'.out] at hT
        rw [show (⟨#[47]⟩ : ByteArray) = ⟨[47].toArray⟩ from rfl, str_append, str_size] at *
        simp at *; omega
      go_wp2_with fail
      refine (natText_s _ df m w7 HR.out.2 HM.out.2.1 HM.out.2.2).mono ?_
      rintro e w9 ⟨s9, rfl, hs9, Hs9, hB9⟩
      replace HB := hid (HB.out.trans (hB9.mono HB.out.size))
      clear hB9
      have HE2 := hid (show T ++ (⟨#[47]⟩ : ByteArray) ++ s9 = ⟨(ftxt _).toArray⟩ by
        rw [Hft.out, if_neg HE.out, HT'.out, Hs9.out, show (⟨#[47]⟩ : ByteArray) = ⟨[47].toArray⟩ from rfl, str_append, str_append, List.append_assoc]; rfl)
      go_wp2_with fail
      go_ret
      exact ⟨by rw [str, ← HE2.out]; rfl, HB.out⟩

theorem rFormat_ret {W : World} {x y : Value} {tm : Array Value} {R : Ending → World → Prop} (h2 : tm[2]?.getD undef = x) (h3 : tm[3]?.getD undef = y) (hR : R (.returned (.tuple #[x, y])) W) :
    bodyPost Tryd.prog Tryd.f11 R .ret { tmps := tm, defers := [] } W :=
  bodyPost_ret (v := .tuple #[x, y]) (by simp [results, Tryd.results11, go_sem, h2, h3]) rfl hR

set_option maxHeartbeats 4000000 in
set_option maxRecDepth 100000 in
theorem rFormat_any (v : Value) (a : Bool × Nat × Nat) (w : World) (h : NRep w v a) :
    Calls Tryd.prog 11 #[v] w fun e w' => e = .returned (.tuple #[str (fmts a), .int .i64 (fmtc a)]) ∧ Below w.heap.size w w' := by
  have HA := hid h
  obtain ⟨vn, vd, rfl, ⟨p1, k1, c1, rfl, _⟩, ⟨p2, k2, c2, rfl, _⟩⟩ := h
  obtain ⟨s1, hs1⟩ : ∃ s1, s1 = a.1 := ⟨_, rfl⟩
  rw [← hs1] at HA ⊢
  clear hs1
  have hal := (Below.refl w.heap.size w).alloc (Nat.le_refl _) (.cells #[.bool s1, .slice p1 k1 c1, .slice p2 k2 c2] 24)
  have HV := hid (Var3.alloc w (x := .bool s1) (y := .slice p1 k1 c1) (z := .slice p2 k2 c2) 24 trivial trivial trivial)
  replace HA := hid (HA.out.below hal)
  have HB := hid hal
  clear hal
  cases hL : large a.2.1 a.2.2
  · rw [(fmt_small hL).1, (fmt_small hL).2]
    have hlt := hid (fr_bd hL)
    have hLa := hid (fun (W : World) (hh : NRep W (.agg #[.bool s1, .slice p1 k1 c1, .slice p2 k2 c2]) a) => (Large_any _ a W hh).mono (R' := fun e w' => e = .returned (.bool false) ∧ Below W.heap.size W w') fun _ _ hR => by rw [hL] at hR; exact hR)
    have hOf := hid (fun (W : World) (hh : NRep W (.agg #[.bool s1, .slice p1 k1 c1, .slice p2 k2 c2]) a) => rOfF_any _ a W hh hL)
    have hTx := hid (fun (W : World) (u : Value) (hh : QNorm W u (fr a)) => rText_any u (fr a) 64 W hh hlt.out.1 hlt.out.2 (by decide) (IsFr.fr a).pos)
    obtain ⟨s, hs⟩ : ∃ s, s = str (ftxt (fr a)) := ⟨_, rfl⟩
    rw [← hs] at hTx ⊢
    clear hL hlt hs
    go_enter Tryd.func11, Tryd.ntmps11
    go_upto_region 1 with fail
    generalize w.alloc (.cells #[.bool s1, .slice p1 k1 c1, .slice p2 k2 c2] 24) = W0 at *
    obtain ⟨x0, x1, x2, _⟩ := HV.out.cells
    go_wp2_with fail
    refine (hLa.out _ HA.out).mono ?_
    rintro e w1 ⟨rfl, hB1⟩
    replace HB := hid (HB.out.trans (hB1.mono HB.out.size))
    replace HV := hid (HV.out.below hB1)
    replace HA := hid (HA.out.below hB1)
    clear hB1 x0 x1 x2 hLa
    obtain ⟨x0, x1, x2, _⟩ := HV.out.cells
    go_wp2_with fail
    refine (hOf.out _ HA.out).mono ?_
    rintro e w2 ⟨sg, pa, ka, ca, pb, kb, cb, rfl, hF, hB2⟩
    replace HB := hid (HB.out.trans (hB2.mono HB.out.size))
    have hT := hTx.out _ _ hF.out
    clear hB2 x0 x1 x2 hOf hTx hF
    go_wp2_with fail
    refine hT.mono ?_
    clear hT
    rintro e w3 ⟨rfl, hB3⟩
    replace HB := hid (HB.out.trans (hB3.mono HB.out.size))
    clear hB3
    go_wp2_with fail
    exact rFormat_ret rfl rfl ⟨rfl, HB.out⟩
  · rw [(fmt_large hL).1, (fmt_large hL).2]
    have hLa := hid (fun (W : World) (hh : NRep W (.agg #[.bool s1, .slice p1 k1 c1, .slice p2 k2 c2]) a) => (Large_any _ a W hh).mono (R' := fun e w' => e = .returned (.bool true) ∧ Below W.heap.size W w') fun _ _ hR => by rw [hL] at hR; exact hR)
    clear hL
    go_enter Tryd.func11, Tryd.ntmps11
    go_upto_region 1 with fail
    generalize w.alloc (.cells #[.bool s1, .slice p1 k1 c1, .slice p2 k2 c2] 24) = W0 at *
    obtain ⟨x0, x1, x2, _⟩ := HV.out.cells
    go_wp2_with fail
    refine (hLa.out _ HA.out).mono ?_
    rintro e w1 ⟨rfl, hB1⟩
    replace HB := hid (HB.out.trans (hB1.mono HB.out.size))
    clear hB1 x0 x1 x2 hLa
    go_wp2_with fail
    exact rFormat_ret rfl rfl ⟨rfl, HB.out⟩
end Go.Proofs.YtjnfnngobkjneaaDoor
