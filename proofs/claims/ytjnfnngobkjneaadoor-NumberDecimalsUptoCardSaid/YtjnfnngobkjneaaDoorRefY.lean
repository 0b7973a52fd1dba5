/- The rationals of the specification: sum, difference, order, product, quotient, what is large, and the floor. -/
import Derived.Test.YtjnfnngobkjneaaDoorRefT
import Derived.Test.YtjnfnngobkjneaaDoorLawD
namespace Go.Proofs.YtjnfnngobkjneaaDoor
open Go.RowKit Dg
theorem mkq_pos {s : Bool} {n d : Nat} (hd : 0 < d) : mkq s n d = frac s n d := by
  have h := mkq_fr (s := s) (n := n) (d := d)
  rwa [show den1 d = d by unfold den1; rw [if_neg (by omega)]] at h
theorem den1_self {d : Nat} (hd : 0 < d) : den1 d = d := by unfold den1; rw [if_neg (by omega)]
theorem mul_b {x y a b c : Nat} (hx : x < B16 ^ a) (hy : y < B16 ^ b) (h : a + b ≤ c) : x * y < B16 ^ c := Nat.lt_of_lt_of_le (mul_lt16 hx hy) (Nat.pow_le_pow_right B16_pos h)
theorem add_b {x y a c : Nat} (hx : x < B16 ^ a) (hy : y < B16 ^ a) (h : a + 1 ≤ c) : x + y < B16 ^ c := by
  have h1 : x + y < B16 ^ a * 2 := by omega
  have h2 : B16 ^ a * 2 ≤ B16 ^ (a + 1) := by rw [Nat.pow_succ]; exact Nat.mul_le_mul_left _ (by decide)
  exact Nat.lt_of_lt_of_le h1 (Nat.le_trans h2 (Nat.pow_le_pow_right B16_pos h))
theorem up_b {x a : Nat} (h : x < B16 ^ a) : x < B16 ^ (a + 1) := Nat.lt_of_lt_of_le h (Nat.pow_le_pow_right B16_pos (by omega))
theorem sub_b {x y a : Nat} (h : x < B16 ^ a) : x - y < B16 ^ (a + 1) := up_b (Nat.lt_of_le_of_lt (Nat.sub_le x y) h)
theorem b_big {x a : Nat} (h : x < B16 ^ a) (ha : a ≤ 1000000000) : x < B16 ^ 1000000000 := lt_16 h ha
/-- Make, its result laid open. -/
theorem Make_open (s : Bool) (vn vd : Value) (n d a : Nat) (W : World) (hn : Rep B16 W vn n) (hd : Rep B16 W vd d) (hnB : n < B16 ^ a) (hdB : d < B16 ^ a) (ha : a ≤ 800000000) (hd0 : 0 < d) :
    Calls Tryd.prog 26 #[.bool s, vn, vd] W fun e w' => ∃ sg pa ka ca pb kb cb, e = .returned (.agg #[.bool sg, .slice pa ka ca, .slice pb kb cb]) ∧ Hid (QNorm w' (.agg #[.bool sg, .slice pa ka ca, .slice pb kb cb]) (frac s n d)) ∧ Below W.heap.size W w' := by
  refine qopen (t := frac s n d) ?_
  have h := MakeOK.any hnB hdB ha s vn vd W hn hd
  rw [mkq_pos hd0] at h
  exact h

end Go.Proofs.YtjnfnngobkjneaaDoor
namespace Go.Proofs.YtjnfnngobkjneaaDoor
open Go.RowKit Dg

theorem sgn_frac {s : Bool} {n d : Nat} (hd : 0 < d) : sgn (frac s n d).1 (frac s n d).2.1 = if n = 0 then 0 else if s then -1 else 1 := by
  have hz : n / Nat.gcd n d = 0 ↔ n = 0 := by
    constructor
    · intro h
      have := Nat.div_mul_cancel (Nat.gcd_dvd_left n d)
      rw [h, Nat.zero_mul] at this
      exact this.symm
    · intro h; rw [h, Nat.zero_div]
  have _ := hd
  unfold sgn frac
  by_cases h : n = 0
  · have h2 := hz.2 h
    simp [h]
  · have h2 : ¬ n / Nat.gcd n d = 0 := fun h3 => h (hz.1 h3)
    cases s <;> simp [h, h2]
theorem fsub_ways (a b : Bool × Nat × Nat) : (a.1 = (!b.1 && decide (b.2.1 ≠ 0)) ∧ fsub a b = frac a.1 (a.2.1 * b.2.2 + b.2.1 * a.2.2) (a.2.2 * b.2.2)) ∨
    (¬ a.1 = (!b.1 && decide (b.2.1 ≠ 0)) ∧ a.2.1 * b.2.2 < b.2.1 * a.2.2 ∧ fsub a b = frac (!b.1 && decide (b.2.1 ≠ 0)) (b.2.1 * a.2.2 - a.2.1 * b.2.2) (a.2.2 * b.2.2)) ∨
    (¬ a.1 = (!b.1 && decide (b.2.1 ≠ 0)) ∧ ¬ a.2.1 * b.2.2 < b.2.1 * a.2.2 ∧ fsub a b = frac a.1 (a.2.1 * b.2.2 - b.2.1 * a.2.2) (a.2.2 * b.2.2)) := by
  by_cases h : a.1 = (!b.1 && decide (b.2.1 ≠ 0))
  · exact .inl ⟨h, if_pos h⟩
  · by_cases h2 : a.2.1 * b.2.2 < b.2.1 * a.2.2
    · exact .inr (.inl ⟨h, h2, (if_neg h).trans (if_pos h2)⟩)
    · exact .inr (.inr ⟨h, h2, (if_neg h).trans (if_neg h2)⟩)
theorem sub_signs {s1 s2 z : Bool} {X Y : Nat} (hz : z = decide (Y ≠ 0)) :
    (s1 = (!s2 && z) → (if X + Y = 0 then (0 : Int) else if s1 then -1 else 1) = cmpI (sv s1 X) (sv s2 Y)) ∧
    (¬ s1 = (!s2 && z) → X < Y → (if Y - X = 0 then (0 : Int) else if (!s2 && z) then -1 else 1) = cmpI (sv s1 X) (sv s2 Y)) ∧
    (¬ s1 = (!s2 && z) → ¬ X < Y → (if X - Y = 0 then (0 : Int) else if s1 then -1 else 1) = cmpI (sv s1 X) (sv s2 Y)) := by
  unfold cmpI sv
  by_cases hy : Y = 0
  · subst hy
    have : z = false := by rw [hz]; rfl
    subst this
    refine ⟨?_, ?_, ?_⟩
    all_goals
      cases s1 <;> cases s2 <;> simp <;> (try split) <;> (try split) <;> (try split) <;> first | rfl | omega
  · have : z = true := by rw [hz]; exact decide_eq_true hy
    subst this
    refine ⟨?_, ?_, ?_⟩
    all_goals
      cases s1 <;> cases s2 <;> simp <;> (try intro) <;> (try split) <;> (try split) <;> (try split) <;> first | rfl | omega
theorem fsub_sgn {a b : Bool × Nat × Nat} (ha : 0 < a.2.2) (hb : 0 < b.2.2) : sgn (fsub a b).1 (fsub a b).2.1 = fcmp a b := by
  have hd : 0 < a.2.2 * b.2.2 := Nat.mul_pos ha hb
  have e1 : sv a.1 a.2.1 * (b.2.2 : Int) = sv a.1 (a.2.1 * b.2.2) := by unfold sv; cases a.1 <;> simp [Int.neg_mul]
  have e2 : sv b.1 b.2.1 * (a.2.2 : Int) = sv b.1 (b.2.1 * a.2.2) := by unfold sv; cases b.1 <;> simp [Int.neg_mul]
  have hz : decide (b.2.1 ≠ 0) = decide (b.2.1 * a.2.2 ≠ 0) := by
    apply decide_eq_decide.2
    constructor
    · intro h h2
      rcases Nat.mul_eq_zero.1 h2 with h3 | h3
      · exact h h3
      · exact absurd h3 (Nat.ne_of_gt ha)
    · intro h h2; rw [h2, Nat.zero_mul] at h; exact h rfl
  unfold fcmp
  rw [e1, e2]
  have hs := sub_signs (s1 := a.1) (s2 := b.1) (X := a.2.1 * b.2.2) hz
  rcases fsub_ways a b with ⟨h, e⟩ | ⟨h, h2, e⟩ | ⟨h, h2, e⟩
  · rw [e, sgn_frac hd]; exact hs.1 h
  · rw [e, sgn_frac hd]; exact hs.2.1 h h2
  · rw [e, sgn_frac hd]; exact hs.2.2 h h2
theorem fsub_zs {a b : Bool × Nat × Nat} (ha : 0 < a.2.2) (hb : 0 < b.2.2) : (fsub a b).2.1 = 0 → (fsub a b).1 = false := by
  have hd : 0 < a.2.2 * b.2.2 := Nat.mul_pos ha hb
  rcases fsub_ways a b with ⟨h, e⟩ | ⟨h, h2, e⟩ | ⟨h, h2, e⟩
  all_goals
    rw [e]
    exact frac_zero_sign hd

end Go.Proofs.YtjnfnngobkjneaaDoor
namespace Go.Proofs.YtjnfnngobkjneaaDoor
open Go.RowKit Dg

theorem lt_W_B6 {x A : Nat} (h : x < W32 ^ 64) (hA : 128 ≤ A) : x < B16 ^ A := by
  rw [pow_two_k] at h
  exact Nat.lt_of_lt_of_le h (Nat.pow_le_pow_right B16_pos (by omega))

end Go.Proofs.YtjnfnngobkjneaaDoor
namespace Go.Proofs.YtjnfnngobkjneaaDoor
open Go.RowKit Dg
end Go.Proofs.YtjnfnngobkjneaaDoor
namespace Go.Proofs.YtjnfnngobkjneaaDoor
open Go.RowKit Dg

theorem Done_ret {W : World} {B : Nat} {x y z ev : Value} {tm : Array Value} {R : Ending → World → Prop} (h2 : tm[2]?.getD undef = .pointer (some ⟨B, 0, none⟩)) (h3 : tm[3]?.getD undef = ev) (hV : Var3 W B x y z)
    (hR : R (.returned (.tuple #[.agg #[x, y, z], ev])) W) : bodyPost Tryd.prog Tryd.f25 R .ret { tmps := tm, defers := [] } W := by
  obtain ⟨c0, c1, c2, _, _, _⟩ := hV.cells
  exact bodyPost_ret (v := .tuple #[.agg #[x, y, z], ev]) (by simp [results, Tryd.results25, go_sem, h2, h3, c0, c1, c2]) rfl hR

set_option maxHeartbeats 4000000 in
set_option maxRecDepth 100000 in
theorem Done_any (v : Value) (t : Bool × Nat × Nat) (w : World) (h : QNorm w v t) (hp : 0 < t.2.2) (hz : t.2.1 = 0 → t.1 = false) :
    Calls Tryd.prog 25 #[v] w fun e w' => Below w.heap.size w w' ∧ URF w' e (if big t.2.1 t.2.2 then 1 else 0) (resT (if big t.2.1 t.2.2 then 1 else 0) t) := by
  have HO := hid (fun (W : World) (hW : Below w.heap.size w W) => Over_any v t W (h.below hW))
  have HRt := hid (fun (hb : big t.2.1 t.2.2 = false) (W : World) (hW : Below w.heap.size w W) => rRatF_any v t W (h.below hW) (b16_64 (big_lt hb).1) (b16_64 (big_lt hb).2) hp hz)
  clear hp hz
  obtain ⟨vn1, vd1, rfl, ⟨p1, k1, c1, rfl, _⟩, ⟨p2, k2, c2, rfl, _⟩⟩ := h
  obtain ⟨s1, hs1⟩ : ∃ s, s = t.1 := ⟨_, rfl⟩
  rw [← hs1] at HO HRt ⊢
  clear hs1
  have hal := below_alloc2 w (.cells #[.bool s1, .slice p1 k1 c1, .slice p2 k2 c2] 53) (.cells #[.bool false, .slice none 0 0, .slice none 0 0] 24)
  have hV := (Var3.alloc w (x := .bool s1) (y := .slice p1 k1 c1) (z := .slice p2 k2 c2) 53 trivial trivial trivial).below ((Below.refl _ _).alloc (Nat.le_refl _) (.cells #[.bool false, .slice none 0 0, .slice none 0 0] 24))
  have hV2 := Var3.alloc2 w (.cells #[.bool s1, .slice p1 k1 c1, .slice p2 k2 c2] 53) (x := .bool false) (y := .slice none 0 0) (z := .slice none 0 0) 24 trivial trivial trivial
  have HB := hid hal
  have HVx := hid hV
  have HVr := hid hV2
  clear hal hV hV2
  cases hb : big t.2.1 t.2.2
  case true =>
    rw [hb] at HO
    rw [if_pos rfl, show resT 1 t = (false, 0, 0) from if_neg (by decide)]
    clear HRt hb
    go_enter Tryd.func25, Tryd.ntmps25
    go_upto_region 1 with fail
    generalize (w.alloc (.cells #[.bool s1, .slice p1 k1 c1, .slice p2 k2 c2] 53)).alloc (.cells #[.bool false, .slice none 0 0, .slice none 0 0] 24) = W0 at *
    obtain ⟨a0, a1, a2, _⟩ := HVx.out.cells
    go_wp2_with fail
    refine (HO.out _ HB.out).mono ?_
    rintro e w1 ⟨rfl, hst⟩
    clear a0 a1 a2
    replace HVr := hid (HVr.out.below hst)
    replace HB := hid (HB.out.trans (hst.mono HB.out.size))
    clear hst HO HVx
    obtain ⟨x0, x1, x2, y0, y1, y2⟩ := HVr.out.cells
    go_wp2_with fail
    refine Done_ret rfl rfl (HVr.out.store trivial trivial trivial) ⟨below_set3 HB.out (Nat.le_succ _), ?_⟩
    exact ⟨_, _, _, _, _, _, _, rfl, hid ⟨_, _, rfl, Rep.nil, Rep.nil⟩⟩
  case false =>
    rw [hb] at HO
    have HRt2 := hid (HRt.out hb)
    rw [if_neg (by decide), show resT 0 t = outF t from if_pos rfl]
    clear HRt hb
    go_enter Tryd.func25, Tryd.ntmps25
    go_upto_region 1 with fail
    generalize (w.alloc (.cells #[.bool s1, .slice p1 k1 c1, .slice p2 k2 c2] 53)).alloc (.cells #[.bool false, .slice none 0 0, .slice none 0 0] 24) = W0 at *
    obtain ⟨a0, a1, a2, _⟩ := HVx.out.cells
    go_wp2_with fail
    refine (HO.out _ HB.out).mono ?_
    rintro e w1 ⟨rfl, hst⟩
    clear a0 a1 a2
    replace HVx := hid (HVx.out.below hst)
    replace HVr := hid (HVr.out.below hst)
    replace HB := hid (HB.out.trans (hst.mono HB.out.size))
    clear hst HO
    obtain ⟨a0, a1, a2, _⟩ := HVx.out.cells
    go_wp2_with fail
    refine (HRt2.out _ HB.out).mono ?_
    rintro e w2 ⟨sg, pa, ka, ca, pb, kb, cb, rfl, hF, hst⟩
    clear a0 a1 a2
    replace HVr := hid (HVr.out.below hst)
    replace HB := hid (HB.out.trans (hst.mono HB.out.size))
    clear hst HVx HRt2
    obtain ⟨x0, x1, x2, y0, y1, y2⟩ := HVr.out.cells
    go_wp2_with fail
    exact Done_ret rfl rfl (HVr.out.store trivial trivial trivial) ⟨below_set3 HB.out (Nat.le_succ _), ⟨_, _, _, _, _, _, _, rfl, hid (hF.out.store3 HVr.out _ _ _)⟩⟩

def IsFr (t : Bool × Nat × Nat) : Prop := ∃ s n d, 0 < d ∧ t = frac s n d
theorem IsFr.pos {t : Bool × Nat × Nat} (h : IsFr t) : 0 < t.2.2 := by obtain ⟨s, n, d, hd, rfl⟩ := h; exact frac_pos hd
theorem IsFr.zs {t : Bool × Nat × Nat} (h : IsFr t) : t.2.1 = 0 → t.1 = false := by obtain ⟨s, n, d, hd, rfl⟩ := h; exact frac_zero_sign hd
theorem IsFr.fr (a : Bool × Nat × Nat) : IsFr (fr a) := ⟨_, _, _, den1_pos _, rfl⟩
theorem IsFr.sub {a b : Bool × Nat × Nat} (ha : 0 < a.2.2) (hb : 0 < b.2.2) : IsFr (fsub a b) := by
  have hd : 0 < a.2.2 * b.2.2 := Nat.mul_pos ha hb
  rcases fsub_ways a b with ⟨_, e⟩ | ⟨_, _, e⟩ | ⟨_, _, e⟩
  all_goals exact ⟨_, _, _, hd, e⟩
theorem IsFr.add {a b : Bool × Nat × Nat} (ha : 0 < a.2.2) (hb : 0 < b.2.2) : IsFr (fadd a b) := by
  have hd : 0 < a.2.2 * b.2.2 := Nat.mul_pos ha hb
  by_cases h : a.1 = b.1
  · exact ⟨_, _, _, hd, if_pos h⟩
  · by_cases h2 : a.2.1 * b.2.2 < b.2.1 * a.2.2
    · exact ⟨_, _, _, hd, (if_neg h).trans (if_pos h2)⟩
    · exact ⟨_, _, _, hd, (if_neg h).trans (if_neg h2)⟩
theorem IsFr.mul {a b : Bool × Nat × Nat} (ha : 0 < a.2.2) (hb : 0 < b.2.2) : IsFr (fmul a b) := ⟨_, _, _, Nat.mul_pos ha hb, rfl⟩
theorem ncode_one {n d n' d' : Nat} {c : Int} {t : Bool × Nat × Nat} (h : (large n d || large n' d') = true) : ncode n d n' d' c t = 1 := by
  unfold ncode ucode bcode
  cases h1 : large n d <;> cases h2 : large n' d' <;> simp [h1, h2] at h ⊢
theorem ncode_ok {n d n' d' : Nat} {c : Int} {t : Bool × Nat × Nat} (h : (large n d || large n' d') = false) : ncode n d n' d' c t = if c ≠ 0 then c else if big t.2.1 t.2.2 then 1 else 0 := by
  unfold ncode ucode bcode
  cases h1 : large n d <;> cases h2 : large n' d' <;> simp [h1, h2] at h ⊢

end Go.Proofs.YtjnfnngobkjneaaDoor
namespace Go.Proofs.YtjnfnngobkjneaaDoor
open Go.RowKit Dg

def botn (t : Bool × Nat × Nat) : Nat := if t.1 = true ∧ t.2.1 % t.2.2 ≠ 0 then t.2.1 / t.2.2 + 1 else t.2.1 / t.2.2
def fbot (t : Bool × Nat × Nat) : Bool × Nat × Nat := frac t.1 (botn t) 1

theorem b_bigk {x a k : Nat} (h : x < B16 ^ a) (ha : a ≤ k) : x < B16 ^ k := Nat.lt_of_lt_of_le h (Nat.pow_le_pow_right B16_pos ha)
theorem b_8 {x a : Nat} (h : x < B16 ^ a) (ha : a ≤ 800000000) : x < B16 ^ 800000000 := by
  generalize 800000000 = b at *
  exact b_bigk h ha

def ftop (t : Bool × Nat × Nat) : Bool × Nat × Nat := fneg (fbot (fneg t))
end Go.Proofs.YtjnfnngobkjneaaDoor
namespace Go.Proofs.YtjnfnngobkjneaaDoor
open Go.RowKit Dg

theorem res_ok {t : Bool × Nat × Nat} (h : IsFr t) (hb : big t.2.1 t.2.2 = false) : Canon (outF t).1 (outF t).2.1 (outF t).2.2 ∧ Few (outF t) := by
  obtain ⟨s, n, d, hd, rfl⟩ := h
  exact ⟨canon_out hd, few_out (big_lt hb).1 (big_lt hb).2⟩
theorem Is_same (v u : Value) (c : Int) (r : Bool × Nat × Nat) (w : World) (hv : FNorm w v r) (hu : FNorm w u r) (h0 : c = 0 → Canon r.1 r.2.1 r.2.2 ∧ Few r) (h1 : c ≠ 0 → r = (false, 0, 0)) :
    Calls Tryd.prog 8 #[v, .int .i64 c, u, .int .i64 c] w fun e w' => e = .returned (.bool true) ∧ Below w.heap.size w w' := by
  by_cases hc : c = 0
  · subst hc
    exact Is_ok v u r w hv hu (h0 rfl).1 (h0 rfl).2
  · have := h1 hc
    subst this
    exact Is_err v u c _ w hv hu hc
theorem resT_ok {c : Int} {t : Bool × Nat × Nat} (h : IsFr t) (hz : c = 0 → big t.2.1 t.2.2 = false) : c = 0 → Canon (resT c t).1 (resT c t).2.1 (resT c t).2.2 ∧ Few (resT c t) := by
  intro h0
  rw [resT, if_pos h0]
  exact res_ok h (hz h0)
theorem resT_no {c : Int} {t : Bool × Nat × Nat} : c ≠ 0 → resT c t = (false, 0, 0) := fun h => if_neg h
end Go.Proofs.YtjnfnngobkjneaaDoor
