/- Texts of numbers of the program: Format. -/
import Derived.Test.YtjnfnngobkjneaaGreatDoorStrD
import Derived.Test.YtjnfnngobkjneaaGreatDoorNumY
namespace Go.Proofs.YtjnfnngobkjneaaGreatDoor
open Go.RowKit Dg Dc

/-- The text of a fraction. -/
def ftxt (t : Bool × Nat × Nat) : List UInt8 := ((if t.1 then [45] else []) ++ Lib.decDigits t.2.1) ++ (if t.2.2 = 1 then [] else 47 :: Lib.decDigits t.2.2)
def fmtc (a : Bool × Nat × Nat) : Int := if large a.2.1 a.2.2 then 1 else 0
def fmts (a : Bool × Nat × Nat) : List UInt8 := if large a.2.1 a.2.2 then [] else ftxt (fr a)
theorem fmt_small {a : Bool × Nat × Nat} (h : large a.2.1 a.2.2 = false) : fmtc a = 0 ∧ fmts a = ftxt (fr a) := by simp [fmtc, fmts, h]
theorem fmt_large {a : Bool × Nat × Nat} (h : large a.2.1 a.2.2 = true) : fmtc a = 1 ∧ fmts a = [] := by simp [fmtc, fmts, h]

set_option maxHeartbeats 1000000 in
theorem Num_any (v : Value) (s : Bool) (n d : Nat) (w : World) (h : FRep w v s n d) :
    Calls Tryz.prog 32 #[v] w fun e w' => ∃ u, e = .returned u ∧ Rep W32 w' u n ∧ Below w.heap.size w w' := by
  obtain ⟨vn, vd, rfl, hn, hd⟩ := h
  have HR := hid (And.intro hn hd)
  obtain ⟨p1, k1, c1, rfl, _, _, _⟩ := hn
  obtain ⟨p2, k2, c2, rfl, _, _, _⟩ := hd
  go_enter Tryz.func32, Tryz.ntmps32
  go_wp2_with fail
  go_ret
  exact ⟨_, rfl, HR.out.1.alloc _, (Below.refl _ _).alloc (Nat.le_refl _) _⟩
set_option maxHeartbeats 1000000 in
theorem Den_any (v : Value) (s : Bool) (n d : Nat) (w : World) (h : FRep w v s n d) :
    Calls Tryz.prog 35 #[v] w fun e w' => ∃ u, e = .returned u ∧ Rep W32 w' u d ∧ Below w.heap.size w w' := by
  obtain ⟨vn, vd, rfl, hn, hd⟩ := h
  have HR := hid (And.intro hn hd)
  obtain ⟨p1, k1, c1, rfl, _, _, _⟩ := hn
  obtain ⟨p2, k2, c2, rfl, _, _, _⟩ := hd
  go_enter Tryz.func35, Tryz.ntmps35
  go_wp2_with fail
  go_ret
  exact ⟨_, rfl, HR.out.2.alloc _, (Below.refl _ _).alloc (Nat.le_refl _) _⟩

theorem nFormat_ret {W : World} {x y : Value} {tm : Array Value} {R : Ending → World → Prop} (h2 : tm[2]?.getD undef = x) (h3 : tm[3]?.getD undef = y) (hR : R (.returned (.tuple #[x, y])) W) :
    bodyPost Tryz.prog Tryz.f11 R .ret { tmps := tm, defers := [] } W :=
  bodyPost_ret (v := .tuple #[x, y]) (by simp [results, Tryz.results11, go_sem, h2, h3]) rfl hR
theorem dec_len {x m : Nat} (hx : x < W32 ^ m) (hm : 0 < m) : (Lib.decDigits x).length ≤ 10 * m := by
  rw [Lib.decDigits_length]
  exact nDigits_le (Nat.lt_of_lt_of_le hx (w32_ten m)) (by omega)
theorem lt_powk {x a k : Nat} (h : x < W32 ^ a) (ha : a ≤ k) : x < W32 ^ k := Nat.lt_of_lt_of_le h (Nat.pow_le_pow_right W32_pos ha)
theorem Decimal_s (va : Value) (x : Nat) (w : World) (ha : Rep W32 w va x) (hx : x < W32 ^ 1000) (ht : Tab10 w) :
    Calls Tryz.prog 33 #[va] w fun e w' => ∃ s : ByteArray, e = .returned (.string s) ∧ s.size ≤ 1000000 ∧ Hid (s = ⟨(Lib.decDigits x).toArray⟩) ∧ Below w.heap.size w w' :=
  (Decimal_any va x w ha hx ht).mono fun _ _ h => ⟨_, h.1, by
    rw [str_size]
    exact Nat.le_trans (dec_len hx (by decide)) (by decide), hid rfl, h.2⟩

theorem fr_lt {a : Bool × Nat × Nat} {k : Nat} (h : large a.2.1 a.2.2 = false) (hk : 64 ≤ k) : (fr a).2.1 < W32 ^ k ∧ (fr a).2.2 < W32 ^ k := by
  have hb : big (fr a).2.1 (fr a).2.2 = false := by
    unfold large at h
    rw [Bool.or_eq_false_iff] at h
    exact h.2
  have h2 := big_lt hb
  exact ⟨lt_powk h2.1 hk, lt_powk h2.2 hk⟩

set_option maxHeartbeats 4000000 in
set_option maxRecDepth 100000 in
theorem nFormat_any (v : Value) (a : Bool × Nat × Nat) (w : World) (h : NRep w v a) (ht : TabOk w) (h10 : Tab10 w) :
    Calls Tryz.prog 11 #[v] w fun e w' => e = .returned (.tuple #[str (fmts a), .int .i64 (fmtc a)]) ∧ Below w.heap.size w w' := by
  have HA := hid h
  have HT := hid (And.intro ht h10)
  clear ht h10
  obtain ⟨vn, vd, rfl, ⟨p1, k1, c1, rfl, _⟩, ⟨p2, k2, c2, rfl, _⟩⟩ := h
  obtain ⟨s1, hs1⟩ : ∃ s1, s1 = a.1 := ⟨_, rfl⟩
  rw [← hs1] at HA ⊢
  clear hs1
  have hal := (Below.refl w.heap.size w).alloc (Nat.le_refl _) (.cells #[.bool s1, .slice p1 k1 c1, .slice p2 k2 c2] 24)
  have hV := Var3.alloc w (x := .bool s1) (y := .slice p1 k1 c1) (z := .slice p2 k2 c2) 24 trivial trivial trivial
  cases hL : large a.2.1 a.2.2
  · have hO := hid (Of_small _ a _ (HA.out.below hal) (HT.out.1.below hal) hL)
    rw [(fmt_small hL).1, (fmt_small hL).2]
    have hlt := hid (fr_lt (k := 1000) hL (by decide))
    obtain ⟨sf, hsf⟩ : ∃ s, s = (fr a).1 := ⟨_, rfl⟩
    obtain ⟨nf, hnf⟩ : ∃ s, s = (fr a).2.1 := ⟨_, rfl⟩
    obtain ⟨df, hdf⟩ : ∃ s, s = (fr a).2.2 := ⟨_, rfl⟩
    have Hft := hid (show ftxt (fr a) = ((if sf then [45] else []) ++ Lib.decDigits nf) ++ (if df = 1 then [] else 47 :: Lib.decDigits df) by rw [ftxt, hsf, hnf, hdf])
    have Hfr := hid (fun (W : World) (u : Value) (hF : FNorm W u (fr a)) => (show FRep W u sf nf df by rw [hsf, hnf, hdf]; exact hF))
    rw [← hnf, ← hdf] at hlt
    clear hL hsf hnf hdf
    go_enter Tryz.func11, Tryz.ntmps11
    go_upto_region 1 with fail
    generalize w.alloc (.cells #[.bool s1, .slice p1 k1 c1, .slice p2 k2 c2] 24) = W0 at *
    obtain ⟨a0, a1, a2, _⟩ := hV.cells
    go_wp2_with fail
    refine hO.out.mono ?_
    rintro e w1 ⟨hB1, sg, pa, ka, ca, pb, kb, cb, rfl, hF⟩
    clear hO hV a0 a1 a2
    have hal1 := (Below.refl w1.heap.size w1).alloc (Nat.le_refl _) (.cells #[.bool sg, .slice pa ka ca, .slice pb kb cb] 50)
    have hV1 := Var3.alloc w1 (x := .bool sg) (y := .slice pa ka ca) (z := .slice pb kb cb) 50 trivial trivial trivial
    have HF := hid (hF.out.below hal1)
    go_upto_region 2 with fail
    have HB := hid (hal.trans ((held_any hB1 hal1).mono hal.size))
    clear hB1 hal1 hF
    generalize w1.alloc (.cells #[.bool sg, .slice pa ka ca, .slice pb kb cb] 50) = W2 at *
    generalize w1.heap.size = X at *
    have HV := hid hV1
    clear hV1 hal
    replace HF := hid (Hfr.out _ _ HF.out)
    obtain ⟨x0, x1, x2, _⟩ := HV.out.cells
    go_wp2_with fail
    refine (Num_any _ _ _ _ W2 HF.out).mono ?_
    rintro e w3 ⟨u3, rfl, hR3, hB3⟩
    replace HB := hid (HB.out.trans (hB3.mono HB.out.size))
    replace HV := hid (HV.out.below hB3)
    replace HF := hid (HF.out.below hB3)
    have hD := Decimal_s u3 nf w3 hR3 hlt.out.1 (HT.out.2.below HB.out)
    clear hR3 hB3 x0 x1 x2
    obtain ⟨x0, x1, x2, _⟩ := HV.out.cells
    go_wp2_with fail
    refine hD.mono ?_
    clear hD
    rintro e w4 ⟨s4, rfl, hs4, Hs4, hB4⟩
    replace HB := hid (HB.out.trans (hB4.mono HB.out.size))
    replace HV := hid (HV.out.below hB4)
    replace HF := hid (HF.out.below hB4)
    clear hB4 x0 x1 x2
    obtain ⟨x0, x1, x2, _⟩ := HV.out.cells
    go_wp2_with fail
    refine (Sign_any _ _ _ _ w4 HF.out).mono ?_
    rintro e w5 ⟨rfl, hB5⟩
    replace HB := hid (HB.out.trans (hB5.mono HB.out.size))
    replace HV := hid (HV.out.below hB5)
    replace HF := hid (HF.out.below hB5)
    clear hB5 x0 x1 x2
    have HW : ∃ T : ByteArray, T.size ≤ 1000001 ∧ Hid (T = ⟨((if sf then [45] else []) ++ Lib.decDigits nf).toArray⟩) ∧ T = (if sf then (⟨#[45]⟩ : ByteArray) ++ s4 else s4) := by
      cases sf
      · exact ⟨s4, by omega, hid (by rw [Hs4.out]; rfl), rfl⟩
      · refine ⟨⟨#[45]⟩ ++ s4, ?_, hid (by rw [Hs4.out]; exact str_append [45] _), rfl⟩
        rw [Hs4.out]
        rw [Hs4.out] at hs4
        rw [show (⟨#[45]⟩ : ByteArray) = ⟨[45].toArray⟩ from rfl, str_append, str_size] at *
        simp; omega
    obtain ⟨T, hT, HT', hTe⟩ := HW
    cases sf
    all_goals
      first
        | (have hg : sgn true nf = -1 := rfl
           rw [hg]
           rw [if_pos rfl] at hTe)
        | (have hg : 0 ≤ sgn false nf := by unfold sgn; simp; split <;> omega
           generalize sgn false nf = g at *
           rw [if_neg (by decide)] at hTe)
      go_upto_region 7 with fail
      first
        | (rw [← hTe]; clear hTe)
        | subst hTe
      obtain ⟨x0, x1, x2, _⟩ := HV.out.cells
      go_wp2_with fail
      refine (Den_any _ _ _ _ w5 HF.out).mono ?_
      rintro e w6 ⟨u6, rfl, hR6, hB6⟩
      replace HB := hid (HB.out.trans (hB6.mono HB.out.size))
      replace HV := hid (HV.out.below hB6)
      replace HF := hid (HF.out.below hB6)
      have hI := IsOne_any u6 df w6 hR6
      clear hR6 hB6 x0 x1 x2
      by_cases hd : df = 1
      · rw [decide_eq_true hd] at hI
        have HE := hid (show (⟨(ftxt (fr a)).toArray⟩ : ByteArray) = T by rw [Hft.out, if_pos hd, List.append_nil]; exact HT'.out.symm)
        clear hd
        go_wp2_with fail
        refine hI.mono ?_
        clear hI
        rintro e w7 ⟨rfl, rfl⟩
        go_wp2_with fail
        exact nFormat_ret rfl rfl ⟨by rw [str, HE.out]; rfl, HB.out⟩
      · rw [decide_eq_false hd] at hI
        have HE := hid hd
        clear hd
        go_wp2_with fail
        refine hI.mono ?_
        clear hI
        rintro e w7 ⟨rfl, rfl⟩
        obtain ⟨x0, x1, x2, _⟩ := HV.out.cells
        go_wp2_with fail
        refine (Den_any _ _ _ _ w6 HF.out).mono ?_
        rintro e w8 ⟨u8, rfl, hR8, hB8⟩
        replace HB := hid (HB.out.trans (hB8.mono HB.out.size))
        have hD := Decimal_s u8 df w8 hR8 hlt.out.2 (HT.out.2.below HB.out)
        clear hR8 hB8 x0 x1 x2
        go_wp2_with fail
        refine hD.mono ?_
        clear hD
        rintro e w9 ⟨s9, rfl, hs9, Hs9, hB9⟩
        replace HB := hid (HB.out.trans (hB9.mono HB.out.size))
        clear hB9
        have h47 : ((⟨#[47]⟩ : ByteArray) ++ s9).size ≤ 1000001 := by
          rw [Hs9.out]
          rw [Hs9.out] at hs9
          rw [show (⟨#[47]⟩ : ByteArray) = ⟨[47].toArray⟩ from rfl, str_append, str_size] at *
          simp; omega
        have HE2 := hid (show T ++ ((⟨#[47]⟩ : ByteArray) ++ s9) = ⟨(ftxt (fr a)).toArray⟩ by
          rw [Hft.out, if_neg HE.out, ← str_append, ← HT'.out, Hs9.out, show (⟨#[47]⟩ : ByteArray) = ⟨[47].toArray⟩ from rfl, str_append]; rfl)
        go_wp2_with fail
        exact nFormat_ret rfl rfl ⟨by rw [str, ← HE2.out]; rfl, HB.out⟩
  · have hO := hid (Of_large _ a _ (HA.out.below hal) (HT.out.1.below hal) hL)
    rw [(fmt_large hL).1, (fmt_large hL).2]
    clear hL
    go_enter Tryz.func11, Tryz.ntmps11
    go_upto_region 1 with fail
    generalize w.alloc (.cells #[.bool s1, .slice p1 k1 c1, .slice p2 k2 c2] 24) = W0 at *
    obtain ⟨a0, a1, a2, _⟩ := hV.cells
    go_wp2_with fail
    refine hO.out.mono ?_
    rintro e w1 ⟨rfl, hB1⟩
    have HB := hid (hal.trans (hB1.mono hal.size))
    clear hO hV a0 a1 a2 hB1 hal
    go_wp2_with fail
    exact nFormat_ret rfl rfl ⟨rfl, HB.out.alloc HB.out.size _⟩
end Go.Proofs.YtjnfnngobkjneaaGreatDoor
