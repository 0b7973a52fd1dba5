/- Fractions of the program: Of. -/
import Derived.Test.YtdinpeglclkjhaaDoorFracB
import Derived.Deep.RegionWith
namespace Go.Proofs.YtdinpeglclkjhaaDoor
open Go.RowKit Dg

theorem exists_len (x : Nat) : ∃ m, Len W32 x m := by
  have key : ∀ n, x < W32 ^ n → ∃ m, Len W32 x m := by
    intro n
    induction n with
    | zero => intro h; exact ⟨0, h, fun h => absurd h (by omega)⟩
    | succ n ih =>
      intro h
      rcases Nat.lt_or_ge x (W32 ^ n) with h1 | h1
      · exact ih h1
      · exact ⟨n + 1, h, fun _ => h1⟩
  exact key x (Nat.lt_pow_self W32_one)

/-- A slice of words, the most significant of which may be 0. -/
def Raw (w : World) (v : Value) (x : Nat) : Prop := ∃ p n cap, v = .slice p n cap ∧ n ≤ cap ∧ n ≤ 1000000000000 ∧ x < W32 ^ n ∧ Slc w p n (dg W32 x)
theorem Raw.below {w w' : World} {v : Value} {x : Nat} (h : Raw w v x) (hb : Below w.heap.size w w') : Raw w' v x := by
  obtain ⟨p, n, cap, hv, h1, h2, h3, h4⟩ := h
  exact ⟨p, n, cap, hv, h1, h2, h3, h4.below hb⟩
theorem Rep.raw {w : World} {v : Value} {x : Nat} (h : Rep W32 w v x) (hx : x < W32 ^ 1000000000) : Raw w v x := by
  obtain ⟨p, n, cap, hv, h1, h2, h3⟩ := h
  exact ⟨p, n, cap, hv, h1, by have := h2.le W32_pos hx; omega, h2.1, h3⟩

/-- The value v is a number of the interface: sign, numerator, denominator as they are written. -/
def ARep (w : World) (v : Value) (s : Bool) (n d : Nat) : Prop := ∃ vn vd, v = .agg #[.bool s, vn, vd] ∧ Raw w vn n ∧ Raw w vd d
theorem ARep.below {w w' : World} {v : Value} {s : Bool} {n d : Nat} (h : ARep w v s n d) (hb : Below w.heap.size w w') : ARep w' v s n d := by
  obtain ⟨vn, vd, hv, h1, h2⟩ := h
  exact ⟨vn, vd, hv, h1.below hb, h2.below hb⟩

theorem div_9 {x a : Nat} (ha : a ≤ 1000000000) (h : x < W32 ^ a) (y : Nat) : x / y < W32 ^ 1000000000 := lt_big (Nat.lt_of_le_of_lt (Nat.div_le_self x y) h) ha
theorem Of_det (p : Option Addr) (n cap x m : Nat) (w : World) (hn : n ≤ 1099511627776) (hnc : n ≤ cap) (hx : x < W32 ^ n) (hs : Slc w p n (dg W32 x)) (hm : Len W32 x m) :
    Calls Tryd.prog 109 #[.slice p n cap] w fun e w' => e = .returned (.slice p m cap) ∧ w = w' :=
  (Of_any p n cap x w hn hnc hx hs).mono fun _ _ ⟨m', he, _, hl, hw⟩ => by
    obtain rfl := hl.unique W32_one hm
    exact ⟨he, hw⟩

/-- The denominator that is meant. -/
def den1 (d : Nat) : Nat := if d = 0 then 1 else d
theorem den1_pos (d : Nat) : 0 < den1 d := by unfold den1; split <;> omega
/-- The number is too large as an argument. -/
def large (n d : Nat) : Bool := decide (W32 ^ 256 ≤ n ∨ W32 ^ 256 ≤ d) || big (n / Nat.gcd n (den1 d)) (den1 d / Nat.gcd n (den1 d))
def zeroF : Value := .agg #[.bool false, .slice none 0 0, .slice none 0 0]

theorem large_short {n d : Nat} (h : decide (W32 ^ 256 ≤ n ∨ W32 ^ 256 ≤ d) = false) : large n d = big (n / Nat.gcd n (den1 d)) (den1 d / Nat.gcd n (den1 d)) := by unfold large; rw [h]; rfl
theorem long_len {n d k m : Nat} (hn : Len W32 n k) (hd : Len W32 d m) : decide (W32 ^ 256 ≤ n ∨ W32 ^ 256 ≤ d) = decide ((256 : Int) < max (k : Int) (m : Int)) := by
  rw [Bool.eq_iff_iff]
  simp only [decide_eq_true_eq]
  have key : ∀ {x j : Nat}, Len W32 x j → (W32 ^ 256 ≤ x ↔ 256 < j) := by
    intro x j h
    constructor
    · intro hx
      rcases Nat.lt_or_ge 256 j with hj | hj
      · exact hj
      · have h1 := h.1
        have h2 := Nat.pow_le_pow_right W32_pos hj
        omega
    · intro hj
      exact Nat.le_trans (Nat.pow_le_pow_right W32_pos (show 256 ≤ j - 1 by omega)) (h.2 (by omega))
  rw [key hn, key hd]
  omega

theorem FracOf_ret {W : World} {B : Nat} {x y z ev : Value} {tm : Array Value} {R : Ending → World → Prop} (h2 : tm[2]?.getD undef = .pointer (some ⟨B, 0, none⟩)) (h3 : tm[3]?.getD undef = ev) (hV : Var3 W B x y z)
    (hR : R (.returned (.tuple #[.agg #[x, y, z], ev])) W) : bodyPost Tryd.prog Tryd.f68 R .ret { tmps := tm, defers := [] } W := by
  obtain ⟨c0, c1, c2, _, _, _⟩ := hV.cells
  exact bodyPost_ret (v := .tuple #[.agg #[x, y, z], ev]) (by simp [results, Tryd.results68, go_sem, h2, h3, c0, c1, c2]) rfl hR

theorem Var3.drewN {w : World} {B : Nat} {x y z : Value} (h : Var3 w B x y z) (q : Nat) : Var3 (w.drewN q) B x y z := h
/-- A store into another struct's variable. -/
theorem Var3.other {w : World} {B C : Nat} {x y z : Value} (h : Var3 w B x y z) (hne : B ≠ C) (x' y' z' : Value) : Var3 (((w.setCell ⟨C, 0, none⟩ x').setCell ⟨C, 1, none⟩ y').setCell ⟨C, 2, none⟩ z') B x y z := by
  obtain ⟨t, h0, h1⟩ := h
  refine ⟨t, ?_, h1⟩
  rw [Below.heap_setCell _ _ _ _ hne, Below.heap_setCell _ _ _ _ hne, Below.heap_setCell _ _ _ _ hne]
  exact h0
theorem below_store3' {w W : World} {B : Nat} (h : Below w.heap.size w W) (hB : w.heap.size ≤ B) (x y z : Value) : Below w.heap.size w (((W.setCell ⟨B, 0, none⟩ x).setCell ⟨B, 1, none⟩ y).setCell ⟨B, 2, none⟩ z) :=
  ((h.setCell hB _).setCell hB _).setCell hB _

set_option maxHeartbeats 2000000 in
set_option maxRecDepth 100000 in
theorem FracOf_any (v : Value) (s : Bool) (n d : Nat) (w : World) (h : ARep w v s n d) (ht : TabOk w) :
    Calls Tryd.prog 68 #[v] w fun e w' => Below w.heap.size w w' ∧
      ((large n d = true ∧ e = .returned (.tuple #[zeroF, .int .i64 1])) ∨
       (large n d = false ∧ ∃ v', e = .returned (.tuple #[v', .int .i64 0]) ∧ FRep w' v' (s && decide (n ≠ 0)) (n / Nat.gcd n (den1 d)) (den1 d / Nat.gcd n (den1 d)))) := by
  obtain ⟨vn, vd, rfl, ⟨p1, k1, c1, rfl, hk1, hb1, hx1, hs1⟩, ⟨p2, k2, c2, rfl, hk2, hb2, hx2, hs2⟩⟩ := h
  obtain ⟨m1, hm1⟩ := exists_len n
  obtain ⟨m2, hm2⟩ := exists_len d
  have hle1 := hm1.le W32_pos hx1
  have hle2 := hm2.le W32_pos hx2
  have hof1 := hid (fun (W : World) (hW : Slc W p1 k1 (dg W32 n)) => Of_det p1 k1 c1 n m1 W (by omega) hk1 hx1 hW hm1)
  have hof2 := hid (fun (W : World) (hW : Slc W p2 k2 (dg W32 d)) => Of_det p2 k2 c2 d m2 W (by omega) hk2 hx2 hW hm2)
  have hlong := long_len hm1 hm2
  have HH := hid (And.intro hs1 (And.intro hs2 (And.intro hm1 (And.intro hm2 (And.intro hlong ht)))))
  clear hs1 hs2 hm1 hm2 hx1 hx2 ht hlong
  go_enter Tryd.func68, Tryd.ntmps68
  go_wp2_with fail
  have hV1 : Var3 ((w.alloc (.cells #[.bool s, .slice p1 k1 c1, .slice p2 k2 c2] 24)).alloc (.cells #[.bool false, .slice none 0 0, .slice none 0 0] 54)) w.heap.size (.bool s) (.slice p1 k1 c1) (.slice p2 k2 c2) :=
    (Var3.alloc w (x := .bool s) (y := .slice p1 k1 c1) (z := .slice p2 k2 c2) 24 trivial trivial trivial).below ((Below.refl _ _).alloc (Nat.le_refl _) _)
  have hV2 : Var3 ((w.alloc (.cells #[.bool s, .slice p1 k1 c1, .slice p2 k2 c2] 24)).alloc (.cells #[.bool false, .slice none 0 0, .slice none 0 0] 54)) (w.heap.size + 1) (.bool false) (.slice none 0 0) (.slice none 0 0) := by
    have := Var3.alloc (w.alloc (.cells #[.bool s, .slice p1 k1 c1, .slice p2 k2 c2] 24)) (x := .bool false) (y := .slice none 0 0) (z := .slice none 0 0) 54 trivial trivial trivial
    rwa [World.size_alloc] at this
  have hB0 : Below w.heap.size w ((w.alloc (.cells #[.bool s, .slice p1 k1 c1, .slice p2 k2 c2] 24)).alloc (.cells #[.bool false, .slice none 0 0, .slice none 0 0] 54)) :=
    ((Below.refl _ _).alloc (Nat.le_refl _) _).alloc (by rw [World.size_alloc]; omega) _
  generalize hW0 : (w.alloc (.cells #[.bool s, .slice p1 k1 c1, .slice p2 k2 c2] 24)).alloc (.cells #[.bool false, .slice none 0 0, .slice none 0 0] 54) = W0 at *
  clear hW0
  have hS1 := hid (fun q : Nat => (HH.out.1.below hB0).below (below_drewN (Below.refl W0.heap.size W0) q))
  have hS2 := hid (fun q : Nat => (HH.out.2.1.below hB0).below (below_drewN (Below.refl W0.heap.size W0) q))
  obtain ⟨c0, c1', c2', _, _, _⟩ := hV1.cells
  have HV := hid (And.intro hV1 (And.intro hV2 hB0))
  clear hV1 hV2 hB0
  go_quiet (first | (go_at_call_of 109 k1; exact quiet_gen (hof1.out _ (hS1.out _))) | (go_at_call_of 109 k2; exact quiet_gen (hof2.out _ (hS2.out _))))
  by_cases hL : (256 : Int) < max (m1 : Int) (m2 : Int)
  · obtain ⟨d0, d1, d2, e0, e1, e2⟩ := HV.out.2.1.cells
    go_wp2_with fail
    refine FracOf_ret rfl rfl ((HV.out.2.1.drewN nq).store trivial trivial trivial) ⟨below_store3' (below_drewN HV.out.2.2 nq) (by omega) _ _ _, .inl ⟨?_, rfl⟩⟩
    unfold large
    rw [HH.out.2.2.2.2.1, decide_eq_true hL]
    rfl
  · have hRn : Rep W32 (W0.drewN nq) (.slice p1 m1 c1) n := ⟨_, _, _, rfl, by omega, HH.out.2.2.1, (hS1.out nq).take hle1⟩
    have hRd : Rep W32 (W0.drewN nq) (.slice p2 m2 c2) d := ⟨_, _, _, rfl, by omega, HH.out.2.2.2.1, (hS2.out nq).take hle2⟩
    have hm256 : m1 ≤ 256 ∧ m2 ≤ 256 := by omega
    have hnB : n < W32 ^ 256 := lt_pow HH.out.2.2.1.1 hm256.1
    have hdB : den1 d < W32 ^ 256 := by
      have h1 : d < W32 ^ 256 := lt_pow HH.out.2.2.2.1.1 (by omega)
      have h2 : 1 < W32 ^ 256 := Nat.lt_of_lt_of_le W32_one (Nat.le_self_pow (by omega) _)
      unfold den1; split <;> omega
    have hlong : decide (W32 ^ 256 ≤ n ∨ W32 ^ 256 ≤ d) = false := by rw [HH.out.2.2.2.2.1]; exact decide_eq_false hL
    have HT := hid ((HH.out.2.2.2.2.2.below HV.out.2.2).drewN nq)
    have HN := hid (And.intro hRn (And.intro (lt_pow hnB (show 256 ≤ 20000000 by omega)) (And.intro (lt_pow hdB (show 256 ≤ 20000000 by omega)) (And.intro hlong hRd))))
    have hzd := IsZero_any _ d _ hRd
    clear hRn hRd hnB hdB hlong c0 c1' c2'
    by_cases hd0 : d = 0
    case' pos =>
      rw [decide_eq_true hd0] at hzd
      go_wp2_with fail
      refine hzd.mono ?_
      rintro e w' ⟨rfl, rfl⟩
      clear hzd
      go_wp2_with fail
      refine (FromUint_any 1 _ (Nat.lt_of_lt_of_le W32_one (Nat.le_self_pow (by omega) _))).mono ?_
      rintro e W1 ⟨vd, rfl, hR1, hB1⟩
      have HD : Hid (Rep W32 W1 vd (den1 d) ∧ Below (W0.drewN nq).heap.size (W0.drewN nq) W1) := hid ⟨by unfold den1; rw [if_pos hd0]; exact hR1, hB1⟩
      obtain ⟨b0, hb0, g1, g2⟩ : ∃ b, W1.cell? ⟨w.heap.size, 0, none⟩ = some (.bool s) ∧ b = s ∧ True := ⟨s, (HV.out.1.drewN nq |>.below hB1).cells.1, rfl, trivial⟩
      clear hR1 hB1 hd0 g1 g2 b0
      go_wp2_with fail
    case' neg =>
      rw [decide_eq_false hd0] at hzd
      have HD : Hid (Rep W32 (W0.drewN nq) (.slice p2 m2 c2) (den1 d) ∧ Below (W0.drewN nq).heap.size (W0.drewN nq) (W0.drewN nq)) := hid ⟨by unfold den1; rw [if_neg hd0]; exact HN.out.2.2.2.2, Below.refl _ _⟩
      have hb0 : W0.cell? ⟨w.heap.size, 0, none⟩ = some (.bool s) := HV.out.1.cells.1
      clear hd0
      go_wp2_with fail
      refine hzd.mono ?_
      rintro e w' ⟨rfl, rfl⟩
      clear hzd
      go_wp2_with fail
    all_goals
      refine (New_any s _ _ n (den1 d) _ (HN.out.1.below HD.out.2) HD.out.1 HN.out.2.1 HN.out.2.2.1 (den1_pos d) (HT.out.below HD.out.2)).mono ?_
      rintro e W2 ⟨vf, rfl, hF, hB2⟩
      have hBW : Below w.heap.size w W2 := (below_drewN HV.out.2.2 nq).trans ((HD.out.2.mono (below_drewN HV.out.2.2 nq).size).trans (hB2.mono (Nat.le_trans (below_drewN HV.out.2.2 nq).size HD.out.2.size)))
      have hVr : Var3 W2 (w.heap.size + 1) (.bool false) (.slice none 0 0) (.slice none 0 0) := ((HV.out.2.1.drewN nq).below HD.out.2).below hB2
      have hlt : w.heap.size + 1 < W2.heap.size := by obtain ⟨_, h0, _⟩ := hVr; exact (Array.getElem?_eq_some_iff.1 h0).1
      obtain ⟨vn', vd', rfl, hr1, hr2⟩ := hF
      obtain ⟨sg, hsg⟩ : ∃ sg, sg = (s && decide (n ≠ 0)) := ⟨_, rfl⟩
      rw [← hsg]
      have HSG := hid hsg
      clear hsg
      have HR := hid (And.intro hr1 hr2)
      obtain ⟨pa, ka, ca, rfl, _, _, _⟩ := hr1
      obtain ⟨pb, kb, cb, rfl, _, _, _⟩ := hr2
      have HW := hid (And.intro hBW hVr)
      clear hBW hVr hB2 HT HD
      go_wp2_with fail
    all_goals
      have hLg := hid (large_any _ sg _ _ _ ⟨_, _, rfl, HR.out.1.below ((Below.refl _ _).alloc (Nat.le_refl _) (Obj.cells #[Value.bool sg, Value.slice pa ka ca, Value.slice pb kb cb] 54)), HR.out.2.below ((Below.refl _ _).alloc (Nat.le_refl _) _)⟩ (div_9 (by omega) HN.out.2.1 _) (div_9 (by omega) HN.out.2.2.1 _))
      refine hLg.out.mono ?_
      rintro e W3 ⟨rfl, hB3⟩
      have hV3 := (Var3.alloc W2 (x := .bool sg) (y := .slice pa ka ca) (z := .slice pb kb cb) 54 trivial trivial trivial).below hB3
      have hVr3 := (HW.out.2.below ((Below.refl _ _).alloc (Nat.le_refl _) (Obj.cells #[Value.bool sg, Value.slice pa ka ca, Value.slice pb kb cb] 54))).below hB3
      have HX := hid (And.intro ((HR.out.1.below ((Below.refl _ _).alloc (Nat.le_refl _) _)).below hB3) (And.intro ((HR.out.2.below ((Below.refl _ _).alloc (Nat.le_refl _) _)).below hB3) (And.intro hV3 (And.intro hVr3 (HW.out.1.trans (Below.trans ((Below.refl _ _).alloc (Nat.le_refl _) (Obj.cells #[Value.bool sg, Value.slice pa ka ca, Value.slice pb kb cb] 54)) (hB3.mono (by rw [World.size_alloc]; omega)) |>.mono HW.out.1.size))))))
      clear hLg HW HR hB3
      obtain ⟨d0, d1, d2, e0, e1, e2⟩ := hVr3.cells
      obtain ⟨f0, f1, f2, _, _, _⟩ := hV3.cells
      clear hV3 hVr3
      obtain ⟨bb, hbb⟩ : ∃ bb, bb = big (n / Nat.gcd n (den1 d)) (den1 d / Nat.gcd n (den1 d)) := ⟨_, rfl⟩
      rw [← hbb]
      have HBB := hid hbb
      clear hbb
      cases bb
    all_goals go_wp2_with fail
    all_goals
      refine FracOf_ret rfl rfl (HX.out.2.2.2.1.store trivial trivial trivial) ⟨below_store3' HX.out.2.2.2.2 (by omega) _ _ _, ?_⟩
      rw [large_short HN.out.2.2.2.1, ← HBB.out]
      first
        | exact .inr ⟨rfl, _, rfl, _, _, by rw [← HSG.out], HX.out.1.store3 HX.out.2.2.2.1 _ _ _, HX.out.2.1.store3 HX.out.2.2.2.1 _ _ _⟩
        | exact .inl ⟨rfl, rfl⟩
end Go.Proofs.YtdinpeglclkjhaaDoor
