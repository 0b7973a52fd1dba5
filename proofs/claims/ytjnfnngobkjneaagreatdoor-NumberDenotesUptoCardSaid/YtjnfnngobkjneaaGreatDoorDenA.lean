/- The law NumberDenotes: its calls on a number and on the same number with other words. -/
import Derived.Test.YtjnfnngobkjneaaGreatDoorDenS
import Derived.Test.YtjnfnngobkjneaaGreatDoorLawBits
namespace Go.Proofs.YtjnfnngobkjneaaGreatDoor
open Go.RowKit Dg Dc

theorem zero_ret {W : World} {x : Value} {tm : Array Value} {R : Ending → World → Prop} (h2 : tm[2]?.getD undef = x) (hR : R (.returned x) W) :
    bodyPost Tryz.prog Tryz.f15 R .ret { tmps := tm, defers := [] } W :=
  bodyPost_ret (v := x) (by simp [results, Tryz.results15, go_sem, h2]) rfl hR
set_option maxHeartbeats 2000000 in
set_option maxRecDepth 100000 in
theorem Zero_any (p : Option Addr) (n c x : Nat) (w : World) (hn : n ≤ 64) (h : RawN w (.slice p n c) x n) :
    Calls Tryz.prog 15 #[.agg #[.bool false, .slice p n c, .slice none 0 0]] w fun e w' => e = .returned (.bool (decide (x = 0))) ∧ Below w.heap.size w w' := by
  obtain ⟨_, _, he, hc, hx, hs⟩ := h
  cases he
  have hal := (Below.refl w.heap.size w).alloc (Nat.le_refl _) (.cells #[.bool false, .slice p n c, .slice none 0 0] 24)
  have HV := hid (Var3.alloc w (x := .bool false) (y := .slice p n c) (z := .slice none 0 0) 24 trivial trivial trivial)
  have HW := hid (words16_any p n c x _ (by omega) hc hx (hs.below hal))
  have HB := hid hal
  clear hal hx hs hc
  go_enter Tryz.func15, Tryz.ntmps15
  go_upto_region 1 with fail
  generalize w.alloc (.cells #[.bool false, .slice p n c, .slice none 0 0] 24) = W0 at *
  obtain ⟨x0, x1, x2, _⟩ := HV.out.cells
  go_wp2_with fail
  refine HW.out.mono ?_
  rintro e w1 ⟨v, rfl, hR, hB1⟩
  obtain ⟨p1, n1, c1, rfl, _, hl, _⟩ := hR
  have hz := hl.zero_iff B16_pos
  have hd : decide (x = 0) = ((n1 : Int) == 0) := by rw [Bool.eq_iff_iff]; simp only [decide_eq_true_eq, beq_iff_eq]; omega
  have HF := hid (And.intro hd (HB.out.trans (hB1.mono HB.out.size)))
  clear hl hz hd hB1 x0 x1 x2
  go_wp2_with fail
  refine zero_ret rfl ⟨?_, HF.out.2⟩
  rw [HF.out.1]
  rfl

theorem den1_pos' {d : Nat} (h : 0 < d) : den1 d = d := by unfold den1; rw [if_neg (by omega)]
theorem sc_fr (s : Bool) (n d m : Nat) (hm : 0 < m) : fr (s, n * m, den1 d * m) = fr (s, n, d) := by
  have hd := den1_pos d
  show frac s (n * m) (den1 (den1 d * m)) = frac s n (den1 d)
  rw [den1_pos' (Nat.mul_pos hd hm)]
  unfold frac
  rw [Nat.gcd_mul_right, Nat.mul_div_mul_right _ _ hm, Nat.mul_div_mul_right _ _ hm]
  have : (n * m ≠ 0) ↔ n ≠ 0 := by rw [Ne, Nat.mul_eq_zero]; omega
  rw [decide_eq_decide.2 this]
theorem sc_large (s : Bool) (n d m : Nat) (hm : 0 < m) (hm2 : m ≤ 65536) (hn : n < W32 ^ 64) (hd : d < W32 ^ 64) : large (n * m) (den1 d * m) = large n d := by
  have hw : W32 ^ 65 ≤ W32 ^ 256 := Nat.pow_le_pow_right W32_pos (by omega)
  have hw2 : W32 ^ 64 ≤ W32 ^ 256 := Nat.pow_le_pow_right W32_pos (by omega)
  have h1 : 1 < W32 ^ 64 := Nat.one_lt_pow (by omega) (by decide)
  have hd1 : den1 d < W32 ^ 64 := by unfold den1; split <;> omega
  have hmw : m ≤ W32 := Nat.le_trans hm2 (by decide)
  have e : W32 ^ 65 = W32 ^ 64 * W32 := Nat.pow_succ ..
  have a1 : n * m < W32 ^ 65 := by rw [e]; exact Nat.mul_lt_mul_of_lt_of_le hn hmw (by decide)
  have a2 : den1 d * m < W32 ^ 65 := by rw [e]; exact Nat.mul_lt_mul_of_lt_of_le hd1 hmw (by decide)
  rw [large_short (decide_eq_false (by omega)), large_short (decide_eq_false (by omega))]
  show big (fr (s, n * m, den1 d * m)).2.1 (fr (s, n * m, den1 d * m)).2.2 = big (fr (s, n, d)).2.1 (fr (s, n, d)).2.2
  rw [sc_fr s n d m hm]

def CU (f : FuncId) (args : Array Value) (W : World) (c : Int) (r : Bool × Nat × Nat) : Prop :=
  Calls Tryz.prog f args W fun e w' => Below W.heap.size W w' ∧ URF w' e c r
def CV (f : FuncId) (args : Array Value) (W : World) (v : Value) : Prop :=
  Calls Tryz.prog f args W fun e w' => e = .returned v ∧ Below W.heap.size W w'
/-- What the law asks of the number a, beside b. -/
structure DenOk (a b : Bool × Nat × Nat) (g1 g2 : Int) (r1 r2 : Bool × Nat × Nat) (ct cc : Int) (S : ByteArray) (fc bt bc : Int) : Prop where
  add : ∀ W v u, NRep W v a → NRep W u b → TabOk W → CU 17 #[v, u] W g1 r1
  mul : ∀ W v u, NRep W v a → NRep W u b → TabOk W → CU 18 #[v, u] W g2 r2
  cmp : ∀ W v u, NRep W v a → NRep W u b → TabOk W → CV 19 #[v, u] W (.tuple #[.int .i64 ct, .int .i64 cc])
  fmt : ∀ W v, NRep W v a → TabOk W → Tab10 W → CV 11 #[v] W (.tuple #[.string S, .int .i64 fc])
  bit : ∀ W v, NRep W v a → TabOk W → CV 20 #[v] W (.tuple #[.int .i64 bt, .int .i64 bc])

theorem den_ok {a a' b : Bool × Nat × Nat} (hL : large a'.2.1 a'.2.2 = large a.2.1 a.2.2) (hf : fr a' = fr a) :
    ∃ g1 g2 r1 r2 ct cc S fc bt bc, DenOk a b g1 g2 r1 r2 ct cc S fc bt bc ∧ DenOk a' b g1 g2 r1 r2 ct cc S fc bt bc ∧
      (∀ W v u, FNorm W v r1 → FNorm W u r1 → CV 9 #[v, .int .i64 g1, u, .int .i64 g1] W (.bool true)) ∧
      (∀ W v u, FNorm W v r2 → FNorm W u r2 → CV 9 #[v, .int .i64 g2, u, .int .i64 g2] W (.bool true)) := by
  have e1 : addc a' b = addc a b := by unfold addc ncode ucode; rw [hL, hf]
  have e2 : mulc a' b = mulc a b := by unfold mulc ncode ucode; rw [hL, hf]
  have e3 : addt a' b = addt a b := by unfold addt; rw [e1, hf]
  have e4 : mult a' b = mult a b := by unfold mult; rw [e2, hf]
  have e5 : cmt a' b = cmt a b := by unfold cmt; rw [hL, hf]
  have e6 : cmc a' b = cmc a b := by unfold cmc; rw [hL]
  have e7 : fmts a' = fmts a := by unfold fmts; rw [hL, hf]
  have e8 : fmtc a' = fmtc a := by unfold fmtc; rw [hL]
  have e9 : sgc a' = sgc a := by unfold sgc; rw [hL]
  obtain ⟨bn, hbn⟩ := exists_len2 (fr a).2.1
  obtain ⟨bd, hbd⟩ := exists_len2 (fr a).2.2
  obtain ⟨S, hS⟩ : ∃ S : ByteArray, str (fmts a) = .string S := ⟨_, rfl⟩
  refine ⟨addc a b, mulc a b, addt a b, mult a b, cmt a b, cmc a b, S, fmtc a, (if large a.2.1 a.2.2 then 0 else max (bn : Int) bd), sgc a, ?_, ?_, ?_, ?_⟩
  · exact
      { add := fun W v u hv hu ht => (nAdd_any v _ _ _ u _ _ _ W hv hu ht).mono fun _ _ h => ⟨h.1, h.2.uniF⟩
        mul := fun W v u hv hu ht => (nMul_any v _ _ _ u _ _ _ W hv hu ht).mono fun _ _ h => ⟨h.1, h.2.uniF⟩
        cmp := fun W v u hv hu ht => nCompare_any v u a b W hv hu ht
        fmt := fun W v hv ht h10 => by
          have h := nFormat_any v a W hv ht h10
          rw [hS] at h
          exact h
        bit := fun W v hv ht => nBits_any v a W _ (fun W' v' hF hL' => fBits_any v' (fr a) bn bd W' hF (lt_big (fr_bd hL').1 (by omega)) (lt_big (fr_bd hL').2 (by omega)) hbn hbd) hv ht }
  · exact
      { add := fun W v u hv hu ht => (nAdd_any v _ _ _ u _ _ _ W hv hu ht).mono fun _ _ h => ⟨h.1, by rw [← e1, ← e3]; exact h.2.uniF⟩
        mul := fun W v u hv hu ht => (nMul_any v _ _ _ u _ _ _ W hv hu ht).mono fun _ _ h => ⟨h.1, by rw [← e2, ← e4]; exact h.2.uniF⟩
        cmp := fun W v u hv hu ht => by
          rw [← e5, ← e6]
          exact nCompare_any v u a' b W hv hu ht
        fmt := fun W v hv ht h10 => by
          have h := nFormat_any v a' W hv ht h10
          rw [e7, hS, e8] at h
          exact h
        bit := fun W v hv ht => by
          rw [← hL, ← e9]
          exact nBits_any v a' W _ (fun W' v' hF hL' => by
            rw [hf] at hF
            rw [hL] at hL'
            exact fBits_any v' (fr a) bn bd W' hF (lt_big (fr_bd hL').1 (by omega)) (lt_big (fr_bd hL').2 (by omega)) hbn hbd) hv ht }
  · exact fun W v u hv hu => Is_same v u _ _ W hv hu (resT_ok (IsFr.add (IsFr.fr a).pos (IsFr.fr b).pos) (fun h => (ncode_zero h).2.2.2)) resT_no
  · exact fun W v u hv hu => Is_same v u _ _ W hv hu (resT_ok (IsFr.mul (IsFr.fr a).pos (IsFr.fr b).pos) (fun h => (ncode_zero h).2.2.2)) resT_no
end Go.Proofs.YtjnfnngobkjneaaGreatDoor
