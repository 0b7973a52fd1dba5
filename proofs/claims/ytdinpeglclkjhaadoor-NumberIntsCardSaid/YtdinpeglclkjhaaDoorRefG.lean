/- The rational numbers of the specification: Of, Int. -/
import Derived.Test.YtdinpeglclkjhaaDoorRefF
namespace Go.Proofs.YtdinpeglclkjhaaDoor
open Go.RowKit Dg

/-- Make answers as it should for this numerator and denominator. -/
def MakeOK (n d : Nat) : Prop := ∀ (s : Bool) (vn vd : Value) (w : World), Rep B16 w vn n → Rep B16 w vd d →
  Calls Tryd.prog 60 #[.bool s, vn, vd] w fun e w' => ∃ v, e = .returned v ∧ QNorm w' v (mkq s n d) ∧ Below w.heap.size w w'
theorem MakeOK.short {n d : Nat} (hn : n < B16 ^ 1000000000) (hc : n = 0 ∨ d ≤ 1) : MakeOK n d := fun s vn vd w h1 h2 => Make_short s vn vd n d w h1 h2 hn hc

/-- The result laid open. -/
theorem qopen {f : FuncId} {args : Array Value} {w : World} {t : Bool × Nat × Nat} (h : Calls Tryd.prog f args w fun e w' => ∃ v, e = .returned v ∧ QNorm w' v t ∧ Below w.heap.size w w') :
    Calls Tryd.prog f args w fun e w' => ∃ sg pa ka ca pb kb cb, e = .returned (.agg #[.bool sg, .slice pa ka ca, .slice pb kb cb]) ∧ Hid (QNorm w' (.agg #[.bool sg, .slice pa ka ca, .slice pb kb cb]) t) ∧ Below w.heap.size w w' := by
  refine h.mono ?_
  rintro e w' ⟨v, he, hF, hB⟩
  obtain ⟨vn, vd, hv, h1, h2⟩ := hF
  obtain ⟨pa, ka, ca, rfl, a1⟩ := id h1
  obtain ⟨pb, kb, cb, rfl, a2⟩ := id h2
  exact ⟨t.1, pa, ka, ca, pb, kb, cb, by rw [he, hv], hid ⟨_, _, rfl, h1, h2⟩, hB⟩
theorem QNorm.store3 {w : World} {B : Nat} {a b c : Value} {v : Value} {t : Bool × Nat × Nat} (h : QNorm w v t) (hV : Var3 w B a b c) (x y z : Value) : QNorm (((w.setCell ⟨B, 0, none⟩ x).setCell ⟨B, 1, none⟩ y).setCell ⟨B, 2, none⟩ z) v t := by
  obtain ⟨vn, vd, hv, h1, h2⟩ := h
  exact ⟨vn, vd, hv, h1.store3 hV _ _ _, h2.store3 hV _ _ _⟩

theorem rOf_ret {W : World} {B : Nat} {x y z : Value} {tm : Array Value} {R : Ending → World → Prop} (h2 : tm[2]?.getD undef = .pointer (some ⟨B, 0, none⟩)) (hV : Var3 W B x y z) (hR : R (.returned (.agg #[x, y, z])) W) :
    bodyPost Tryd.prog Tryd.f21 R .ret { tmps := tm, defers := [] } W := by
  obtain ⟨c0, c1, c2, _, _, _⟩ := hV.cells
  exact bodyPost_ret (v := .agg #[x, y, z]) (by simp [results, Tryd.results21, go_sem, h2, c0, c1, c2]) rfl hR
theorem rInt_ret {W : World} {B : Nat} {x y z : Value} {tm : Array Value} {R : Ending → World → Prop} (h2 : tm[2]?.getD undef = .pointer (some ⟨B, 0, none⟩)) (hV : Var3 W B x y z) (hR : R (.returned (.agg #[x, y, z])) W) :
    bodyPost Tryd.prog Tryd.f25 R .ret { tmps := tm, defers := [] } W := by
  obtain ⟨c0, c1, c2, _, _, _⟩ := hV.cells
  exact bodyPost_ret (v := .agg #[x, y, z]) (by simp [results, Tryd.results25, go_sem, h2, c0, c1, c2]) rfl hR

theorem held2 {N : Nat} {W0 W : World} {a b : Prop} (h : a ∧ b ∧ Hid (Below N W0 W)) : Below N W0 W := h.2.2.out

set_option maxHeartbeats 4000000 in
set_option maxRecDepth 100000 in
theorem rOf_any (v : Value) (s : Bool) (n d : Nat) (w : World) (h : ARep w v s n d) (hM : MakeOK n (den1 d)) :
    Calls Tryd.prog 21 #[v] w fun e w' => ∃ v', e = .returned v' ∧ QNorm w' v' (mkq s n (den1 d)) ∧ Below w.heap.size w w' := by
  obtain ⟨vn, vd, rfl, ⟨p1, k1, c1, rfl, hk1, hb1, hx1, hs1⟩, ⟨p2, k2, c2, rfl, hk2, hb2, hx2, hs2⟩⟩ := h
  have hW1 := hid (fun (W : World) (hW : Below w.heap.size w W) => words16_any p1 k1 c1 n W hb1 hk1 hx1 (hs1.below hW))
  have hW2 := hid (fun (W : World) (hW : Below w.heap.size w W) => words16_any p2 k2 c2 d W hb2 hk2 hx2 (hs2.below hW))
  have HM := hid (fun (W : World) (vn vd : Value) (h1 : Rep B16 W vn n) (h2 : Rep B16 W vd (den1 d)) => qopen (hM s vn vd W h1 h2))
  clear hM hs1 hs2 hx1 hx2
  go_enter Tryd.func21, Tryd.ntmps21
  go_upto_region 1 with fail
  have hVa := (Var3.alloc w (x := .bool s) (y := .slice p1 k1 c1) (z := .slice p2 k2 c2) 24 trivial trivial trivial).below ((Below.refl _ _).alloc (Nat.le_refl _) (.cells #[.bool false, .slice none 0 0, .slice none 0 0] 34))
  have hVr := Var3.alloc2 w (.cells #[.bool s, .slice p1 k1 c1, .slice p2 k2 c2] 24) (x := .bool false) (y := .slice none 0 0) (z := .slice none 0 0) 34 trivial trivial trivial
  have hB0 := below_alloc2 w (.cells #[.bool s, .slice p1 k1 c1, .slice p2 k2 c2] 24) (.cells #[.bool false, .slice none 0 0, .slice none 0 0] 34)
  generalize (w.alloc (.cells #[.bool s, .slice p1 k1 c1, .slice p2 k2 c2] 24)).alloc (.cells #[.bool false, .slice none 0 0, .slice none 0 0] 34) = W0 at *
  obtain ⟨x0, x1, x2, _⟩ := id hVa.cells
  have hcall := hid (hW2.out W0 hB0)
  have HV := hid (And.intro hVa (And.intro hVr hB0))
  clear hVa hVr hB0
  go_wp2_with fail
  refine hcall.out.mono ?_
  rintro e w1 ⟨v1, rfl, hR1, hB1⟩
  clear hcall x0 x1 x2
  have HV1 := hid (And.intro (HV.out.1.below hB1) (And.intro (HV.out.2.1.below hB1) (HV.out.2.2.trans (hB1.mono HV.out.2.2.size))))
  have hn1 : w.heap.size + 1 ≤ w1.heap.size := by obtain ⟨_, h0, _⟩ := HV1.out.2.1; exact Nat.le_of_lt (Array.getElem?_eq_some_iff.1 h0).1
  have HS : Hid (∀ w', Below (w.heap.size + 1) w1 w' → (w'.cell? ⟨w.heap.size, 0, none⟩ = some (.bool s) ∧ w'.cell? ⟨w.heap.size, 1, none⟩ = some (.slice p1 k1 c1) ∧ Hid (Below (w.heap.size + 1) w1 w'))) :=
    hid fun w' hb => ⟨(bcellN hb _ _ (Nat.lt_succ_self _)).trans HV1.out.1.cells.1, (bcellN hb _ _ (Nat.lt_succ_self _)).trans HV1.out.1.cells.2.1, hid hb⟩
  obtain ⟨p3, k3, c3, rfl, _, hl3, _⟩ := id hR1
  have hz3 := hl3.zero_iff B16_pos
  by_cases h0 : k3 = 0
  case' pos =>
    subst h0
    have hd0 := hz3.2 rfl
    clear hl3 hz3
    go_wp2_with fail
    refine (NatOf_any 1 _ (by decide)).mono ?_
    rintro e w2 ⟨vd, rfl, hR2, hB2⟩
    have HD : Hid (Rep B16 w2 vd (den1 d) ∧ Below w1.heap.size w1 w2) := hid ⟨by rw [hd0]; exact hR2, hB2⟩
    clear hR2 hB2 hd0
    go_upto_region 4 with fail
  case' neg =>
    have hf : ((k3 : Int) == 0) = false := by simpa using h0
    have hd0 : ¬ d = 0 := fun h => h0 (hz3.1 h)
    have HD : Hid (Rep B16 w1 (.slice p3 k3 c3) (den1 d) ∧ Below w1.heap.size w1 w1) := hid ⟨by rw [show den1 d = d from if_neg hd0]; exact hR1, Below.refl _ _⟩
    clear hl3 hz3 h0 hd0
    go_upto_region 4 with fail
  all_goals
    have hwd := (HV1.out.2.2.trans (HD.out.2.mono HV1.out.2.2.size)).drew
    go_region_held3 (fun w' => w'.cell? ⟨w.heap.size, 0, none⟩ = some (.bool s) ∧ w'.cell? ⟨w.heap.size, 1, none⟩ = some (.slice p1 k1 c1) ∧ Hid (Below (w.heap.size + 1) w1 w'))
      (first | exact HS.out _ ((HD.out.2.mono hn1).drew) | (exact HS.out _ (by assumption)) | exact HS.out _ (below_set3 (by assumption) (Nat.le_refl _)))
      (first
        | (go_at_call 55; refine (hW1.out _ hwd).mono ?_; rintro e wo ⟨vo, rfl, hRo, hBo⟩; have hKo := held_any (HD.out.2.drew) hBo; have hKo2 := hKo.mono hn1)
        | (go_at_call 60; refine (HM.out _ _ _ hRo (HD.out.1.drew.below hBo)).mono ?_; rintro e wf ⟨sg, pa, ka, ca, pb, kb, cb, rfl, HF, hBf⟩; have hKf := held_any hKo hBf; have hKf2 := hKf.mono hn1; obtain ⟨x0, x1, x2, y0, y1, y2⟩ := (HV1.out.2.1.below hKf).cells))
    rename_i hHeld
    clear hHeld
    go_wp2_with fail
    have hV := HV1.out.2.1.below hKf
    exact rOf_ret rfl (hV.store trivial trivial trivial) ⟨_, rfl, HF.out.store3 hV _ _ _, below_set3 (HV1.out.2.2.trans (hKf.mono HV1.out.2.2.size)) (Nat.le_succ _)⟩

theorem lt_16 {x a : Nat} (h : x < B16 ^ a) (hab : a ≤ 1000000000) : x < B16 ^ 1000000000 := by
  generalize 1000000000 = b at *
  exact Nat.lt_of_lt_of_le h (Nat.pow_le_pow_right B16_pos hab)
theorem MakeOK.int (m : Nat) (h : m < 18446744073709551616) : MakeOK m 1 :=
  MakeOK.short (lt_16 (a := 4) (by rw [show B16 ^ 4 = 18446744073709551616 by decide]; exact h) (by omega)) (Or.inr (Nat.le_refl 1))

set_option maxHeartbeats 2000000 in
set_option maxRecDepth 100000 in
theorem rInt_any (n : Int) (w : World) (hlo : -9223372036854775808 ≤ n) (hhi : n < 9223372036854775808) :
    Calls Tryd.prog 25 #[.int .i64 n] w fun e w' => ∃ v', e = .returned v' ∧ QNorm w' v' (mkq (decide (n < 0)) n.natAbs 1) ∧ Below w.heap.size w w' := by
  have HN := hid (fun W => NatOf_any n.natAbs W (by omega))
  have HN1 := hid (fun W => NatOf_any 1 W (by decide))
  have hmk := MakeOK.int n.natAbs (by omega)
  have HM := hid (fun (s : Bool) (W : World) (vn vd : Value) (h1 : Rep B16 W vn n.natAbs) (h2 : Rep B16 W vd 1) => qopen (hmk s vn vd W h1 h2))
  obtain ⟨m, hm⟩ : ∃ m, m = n.natAbs := ⟨_, rfl⟩
  rw [← hm] at HN HM ⊢
  clear hmk
  by_cases h0 : n < 0
  case' pos =>
    rw [decide_eq_true h0]
    have hd : decide (n < 0) = true := decide_eq_true h0
    have e1 : IntKind.i64.wrap (n + 1) = n + 1 := by simp [IntKind.wrap, IntKind.bits, IntKind.signed]; omega
    have e2 : IntKind.i64.wrap (-(n + 1)) = -(n + 1) := by simp [IntKind.wrap, IntKind.bits, IntKind.signed]; omega
    have e3 : IntKind.u64.wrap (-(n + 1)) = -(n + 1) := by simp [IntKind.wrap, IntKind.bits, IntKind.signed]; omega
    have e4 : IntKind.u64.wrap (-(n + 1) + 1) = (m : Int) := by simp [IntKind.wrap, IntKind.bits, IntKind.signed]; omega
    clear hm hlo hhi
    go_enter Tryd.func25, Tryd.ntmps25
    go_wp2_with fail
  case' neg =>
    rw [decide_eq_false h0]
    obtain rfl : n = (m : Int) := by omega
    clear hm
    go_enter Tryd.func25, Tryd.ntmps25
    go_wp2_with fail
  all_goals
    refine (HN.out _).mono ?_
    rintro e w1 ⟨v1, rfl, hR1, hB1⟩
    go_wp2_with fail
    refine (HN1.out _).mono ?_
    rintro e w2 ⟨v2, rfl, hR2, hB2⟩
    go_wp2_with fail
    refine (HM.out _ _ _ _ (hR1.below hB2) hR2).mono ?_
    rintro e w3 ⟨sg, pa, ka, ca, pb, kb, cb, rfl, HF, hB3⟩
    have hV := (((Var3.alloc w (x := .bool false) (y := .slice none 0 0) (z := .slice none 0 0) 34 trivial trivial trivial).below hB1).below hB2).below hB3
    have hK0 := (Below.refl w.heap.size w).alloc (Nat.le_refl _) (.cells #[.bool false, .slice none 0 0, .slice none 0 0] 34)
    have hK1 := hK0.trans (hB1.mono hK0.size)
    have hK2 := hK1.trans (hB2.mono hK1.size)
    have HP := hid (And.intro hV (hK2.trans (hB3.mono hK2.size)))
    obtain ⟨x0, x1, x2, y0, y1, y2⟩ := hV.cells
    clear hK0 hK1 hK2 hB1 hB2 hB3 hR1 hR2 hV
    go_wp2_with fail
    exact rInt_ret rfl (HP.out.1.store trivial trivial trivial) ⟨_, rfl, HF.out.store3 HP.out.1 _ _ _, below_set3 HP.out.2 (Nat.le_refl _)⟩
end Go.Proofs.YtdinpeglclkjhaaDoor
