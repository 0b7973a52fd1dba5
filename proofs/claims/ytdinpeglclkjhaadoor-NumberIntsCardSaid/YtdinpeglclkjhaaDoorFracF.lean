/- Fractions of the program: FromInt, Rat. -/
import Derived.Test.YtdinpeglclkjhaaDoorFracE
import Derived.Deep.Cut
namespace Go.Proofs.YtdinpeglclkjhaaDoor
open Go.RowKit Dg

theorem FromInt_ret {W : World} {B : Nat} {x y z : Value} {tm : Array Value} {R : Ending → World → Prop} (h2 : tm[2]?.getD undef = .pointer (some ⟨B, 0, none⟩)) (hV : Var3 W B x y z) (hR : R (.returned (.agg #[x, y, z])) W) :
    bodyPost Tryd.prog Tryd.f61 R .ret { tmps := tm, defers := [] } W := by
  obtain ⟨c0, c1, c2, _, _, _⟩ := hV.cells
  exact bodyPost_ret (v := .agg #[x, y, z]) (by simp [results, Tryd.results61, go_sem, h2, c0, c1, c2]) rfl hR

theorem one_W2 : 1 < W32 ^ 2 := by decide

set_option maxHeartbeats 1000000 in
set_option maxRecDepth 100000 in
theorem FracFromInt_any (n : Int) (w : World) (hlo : -9223372036854775808 ≤ n) (hhi : n < 9223372036854775808) :
    Calls Tryd.prog 61 #[.int .i64 n] w fun e w' => ∃ v', e = .returned v' ∧ FRep w' v' (decide (n < 0)) n.natAbs 1 ∧ Below w.heap.size w w' := by
  have hm2 : n.natAbs < W32 ^ 2 := by
    have : W32 ^ 2 = 18446744073709551616 := by decide
    omega
  have HF := hid (fun W => FromUint_any n.natAbs W hm2)
  have HF1 := hid (fun W => FromUint_any 1 W one_W2)
  clear hm2
  obtain ⟨m, hm⟩ : ∃ m, m = n.natAbs := ⟨_, rfl⟩
  rw [← hm] at HF ⊢
  by_cases h0 : n < 0
  case' pos =>
    rw [decide_eq_true h0]
    have e1 : IntKind.u64.wrap n = n + 18446744073709551616 := by simp [IntKind.wrap, IntKind.bits, IntKind.signed]; omega
    have e2 : IntKind.u64.wrap (-(n + 18446744073709551616)) = (m : Int) := by simp [IntKind.wrap, IntKind.bits, IntKind.signed]; omega
    have hd : decide (n < 0) = true := decide_eq_true h0
    clear hm hlo hhi
    go_enter Tryd.func61, Tryd.ntmps61
    go_wp2_with fail
  case' neg =>
    rw [decide_eq_false h0]
    obtain rfl : n = (m : Int) := by omega
    clear hm
    go_enter Tryd.func61, Tryd.ntmps61
    go_wp2_with fail
  all_goals
    refine (HF.out _).mono ?_
    rintro e w1 ⟨v1, rfl, hR1, hB1⟩
    go_wp2_with fail
    refine (HF1.out w1).mono ?_
    rintro e w2 ⟨v2, rfl, hR2, hB2⟩
    have hV := ((Var3.alloc w (x := .bool false) (y := .slice none 0 0) (z := .slice none 0 0) 54 trivial trivial trivial).below hB1).below hB2
    have HP := hid (And.intro (hR1.below hB2) (And.intro hR2 (And.intro hV (((Below.refl _ _).alloc (Nat.le_refl _) (.cells #[.bool false, .slice none 0 0, .slice none 0 0] 54)).trans ((hB1.mono (by rw [World.size_alloc]; omega)).trans (hB2.mono (by have := hB1.size; rw [World.size_alloc] at this; omega)))))))
    obtain ⟨x0, x1, x2, y0, y1, y2⟩ := hV.cells
    obtain ⟨pa, ka, ca, rfl, _⟩ := hR1
    obtain ⟨pb, kb, cb, rfl, _⟩ := hR2
    clear hB1 hB2 hV
    go_wp2_with fail
    exact FromInt_ret rfl (HP.out.2.2.1.store trivial trivial trivial) ⟨_, rfl, ⟨_, _, rfl, HP.out.1.store3 HP.out.2.2.1 _ _ _, HP.out.2.1.store3 HP.out.2.2.1 _ _ _⟩, below_set3 HP.out.2.2.2 (Nat.le_refl _)⟩

theorem Rat_ret {W : World} {B : Nat} {x y z ev : Value} {tm : Array Value} {R : Ending → World → Prop} (h2 : tm[2]?.getD undef = .pointer (some ⟨B, 0, none⟩)) (h3 : tm[3]?.getD undef = ev) (hV : Var3 W B x y z)
    (hR : R (.returned (.tuple #[.agg #[x, y, z], ev])) W) : bodyPost Tryd.prog Tryd.f62 R .ret { tmps := tm, defers := [] } W := by
  obtain ⟨c0, c1, c2, _, _, _⟩ := hV.cells
  exact bodyPost_ret (v := .tuple #[.agg #[x, y, z], ev]) (by simp [results, Tryd.results62, go_sem, h2, h3, c0, c1, c2]) rfl hR

theorem held3' {N : Nat} {W0 W : World} {a b c : Prop} (h : a ∧ b ∧ c ∧ Hid (Below N W0 W)) : Below N W0 W := h.2.2.2.out
theorem below_al1 {W0 W : World} (h : Below W0.heap.size W0 W) (o : Obj) : Below W0.heap.size W0 (W.alloc o) := h.alloc h.size o
theorem held3_alloc {W0 W : World} {a b c : Prop} (h : a ∧ b ∧ c ∧ Hid (Below W0.heap.size W0 W)) (o : Obj) : Below W0.heap.size W0 (W.alloc o) := h.2.2.2.out.alloc h.2.2.2.out.size o
theorem held3_alloc' {W0 W : World} {a b c : Prop} (h : a ∧ b ∧ c ∧ Hid (Below W0.heap.size W0 W.drew)) (o : Obj) : Below W0.heap.size W0 (W.alloc o).drew :=
  (Below.alloc (w := W.drew) h.2.2.2.out h.2.2.2.out.size o)

theorem Var3.set2 {w : World} {B : Nat} {x y z z' : Value} (h : Var3 w B x y z) (hz : NotInt z') : Var3 (w.setCell ⟨B, 2, none⟩ z') B x y z' := by
  obtain ⟨t, h0, hx, hy, _⟩ := h
  exact ⟨t, heap_setCell_same w B 2 _ t z' h0, hx, hy, hz⟩
theorem Var3.other1 {w : World} {B C : Nat} {x y z : Value} (h : Var3 w B x y z) (hne : B ≠ C) (k : Nat) (u : Value) : Var3 (w.setCell ⟨C, k, none⟩ u) B x y z := by
  obtain ⟨t, h0, h1⟩ := h
  exact ⟨t, by rw [Below.heap_setCell _ _ _ _ hne]; exact h0, h1⟩
theorem Rep.set1 {D : Nat} {w : World} {B : Nat} {a b c : Value} {v : Value} {n : Nat} (h : Rep D w v n) (hV : Var3 w B a b c) (k : Nat) (u : Value) : Rep D (w.setCell ⟨B, k, none⟩ u) v n := by
  obtain ⟨p, m, cap, hv, hk, hl, hs⟩ := h
  refine ⟨p, m, cap, hv, hk, hl, fun h0 => ?_⟩
  obtain ⟨bb, off, hp, hc⟩ := hs h0
  obtain ⟨t, h1, na, nb, nc⟩ := hV
  have hne : bb ≠ B := by
    rintro rfl
    have hc0 := hc 0 h0
    rw [Nat.add_zero] at hc0
    simp only [World.cell?, h1] at hc0
    rcases off with _ | _ | _ | off
    · simp at hc0; subst hc0; exact na
    · simp at hc0; subst hc0; exact nb
    · simp at hc0; subst hc0; exact nc
    · simp at hc0
  refine ⟨bb, off, hp, fun j hj => ?_⟩
  rw [World.cell?_of_block (w := w) (a := ⟨bb, off + j, none⟩)]
  · exact hc j hj
  · show (w.setCell ⟨B, k, none⟩ u).heap[bb]? = _
    rw [Below.heap_setCell _ _ _ _ hne]

/-- The canonical value: the denominator 1 is left out. -/
def den0 (d : Nat) : Nat := if d = 1 then 0 else d

set_option maxHeartbeats 4000000 in
set_option maxRecDepth 100000 in
theorem FracRat_any (v : Value) (s : Bool) (n d : Nat) (w : World) (h : FRep w v s n d) (hn : n < W32 ^ 1000000000) (hd : d < W32 ^ 1000000000) :
    Calls Tryd.prog 62 #[v] w fun e w' => Below w.heap.size w w' ∧
      ((big n d = true ∧ e = .returned (.tuple #[zeroF, .int .i64 1])) ∨
       (big n d = false ∧ ∃ v', e = .returned (.tuple #[v', .int .i64 0]) ∧ FRep w' v' s n (den0 d))) := by
  obtain ⟨vn, vd, rfl, hrn, hrd⟩ := h
  have HR := hid (And.intro hrn hrd)
  obtain ⟨p1, k1, c1, rfl, _⟩ := hrn
  obtain ⟨p2, k2, c2, rfl, _⟩ := hrd
  have HN := hid (And.intro hn hd)
  clear hn hd
  go_enter Tryd.func62, Tryd.ntmps62
  go_wp2_with fail
  have hVa := (Var3.alloc w (x := .bool s) (y := .slice p1 k1 c1) (z := .slice p2 k2 c2) 54 trivial trivial trivial).below ((Below.refl _ _).alloc (Nat.le_refl _) (.cells #[.bool false, .slice none 0 0, .slice none 0 0] 24))
  have hVr := Var3.alloc2 w (.cells #[.bool s, .slice p1 k1 c1, .slice p2 k2 c2] 54) (x := .bool false) (y := .slice none 0 0) (z := .slice none 0 0) 24 trivial trivial trivial
  have hB0 := below_alloc2 w (.cells #[.bool s, .slice p1 k1 c1, .slice p2 k2 c2] 54) (.cells #[.bool false, .slice none 0 0, .slice none 0 0] 24)
  generalize hW0 : (w.alloc (.cells #[.bool s, .slice p1 k1 c1, .slice p2 k2 c2] 54)).alloc (.cells #[.bool false, .slice none 0 0, .slice none 0 0] 24) = W0 at *
  clear hW0
  have hL := hid (large_any (.agg #[.bool s, .slice p1 k1 c1, .slice p2 k2 c2]) s n d W0 ⟨_, _, rfl, HR.out.1.below hB0, HR.out.2.below hB0⟩ HN.out.1 HN.out.2)
  refine hL.out.mono ?_
  rintro e w1 ⟨rfl, hB1⟩
  have HP : Hid ((Rep W32 w1 (.slice p1 k1 c1) n ∧ Rep W32 w1 (.slice p2 k2 c2) d) ∧ (Var3 w1 w.heap.size (.bool s) (.slice p1 k1 c1) (.slice p2 k2 c2) ∧ Var3 w1 (w.heap.size + 1) (.bool false) (.slice none 0 0) (.slice none 0 0)) ∧ Below w.heap.size w w1) :=
    hid ⟨⟨(HR.out.1.below hB0).below hB1, (HR.out.2.below hB0).below hB1⟩, ⟨hVa.below hB1, hVr.below hB1⟩, hB0.trans (hB1.mono hB0.size)⟩
  clear hVa hVr hB0 hL hB1 HR
  obtain ⟨bb, hbb⟩ : ∃ bb, bb = big n d := ⟨_, rfl⟩
  rw [← hbb]
  have HBB := hid hbb
  clear hbb
  obtain ⟨a0, a1, a2, _, _, _⟩ := HP.out.2.1.1.cells
  obtain ⟨x0, x1, x2, y0, y1, y2⟩ := HP.out.2.1.2.cells
  have HS : Hid (∀ w', Below w1.heap.size w1 w' → (w'.cell? ⟨w.heap.size, 0, none⟩ = some (.bool s) ∧ w'.cell? ⟨w.heap.size, 1, none⟩ = some (.slice p1 k1 c1) ∧ w'.cell? ⟨w.heap.size, 2, none⟩ = some (.slice p2 k2 c2) ∧ Hid (Below w1.heap.size w1 w'))) :=
    hid fun w' hb => ⟨(HP.out.2.1.1.below hb).cells.1, (HP.out.2.1.1.below hb).cells.2.1, (HP.out.2.1.1.below hb).cells.2.2.1, hid hb⟩
  have hWd := hid (fun (W : World) (hW : Below w1.heap.size w1 W) => words_any (.slice p1 k1 c1) n W (HP.out.1.1.below hW) HN.out.1)
  cases bb
  · clear a0 a1 a2 x0 x1 x2
    go_wp2_with fail
    go_region_held3 (fun w' => w'.cell? ⟨w.heap.size, 0, none⟩ = some (.bool s) ∧ w'.cell? ⟨w.heap.size, 1, none⟩ = some (.slice p1 k1 c1) ∧ w'.cell? ⟨w.heap.size, 2, none⟩ = some (.slice p2 k2 c2) ∧ Hid (Below w1.heap.size w1 w'))
      (first | exact HS.out _ (Below.refl _ _).drew | (exact HS.out _ (by assumption)) | (exact HS.out _ (held3_alloc (by assumption) _)) | (exact HS.out _ (held3_alloc' (by assumption) _)) | (exact HS.out _ (below_al1 (by assumption) _)) | (exact HS.out _ (below_set3 (by assumption) (Nat.le_refl _))))
      (first
        | (go_at_call 101; refine (hWd.out _ (held3' (by assumption))).mono ?_; rintro e wc ⟨vc, rfl, hRc, hBc⟩; have hKc := held_any (held3' (W0 := w1) (by assumption)) hBc; obtain ⟨pa, ka, ca, rfl, hRc'⟩ := id hRc; clear hRc'; try (have hVn := ((Var3.alloc w1 (x := .bool false) (y := .slice none 0 0) (z := .slice none 0 0) 24 trivial trivial trivial).below (Below.refl _ _).drew).below hBc; obtain ⟨x0, x1, x2, y0, y1, y2⟩ := id hVn.cells)))
    all_goals
      rename_i hHeld
      clear hHeld
      first
        | (have hVX : Hid (Var3 (((wc.setCell ⟨w1.heap.size, 0, none⟩ (.bool s)).setCell ⟨w1.heap.size, 1, none⟩ (.slice pa ka ca)).setCell ⟨w1.heap.size, 2, none⟩ (.slice none 0 0)) w1.heap.size (.bool s) (.slice pa ka ca) (.slice none 0 0)) := hid (hVn.store trivial trivial trivial)
           have hRX := hid (hRc.store3 hVn (.bool s) (.slice pa ka ca) (.slice none 0 0))
           have hKX : Hid (Below w1.heap.size w1 (((wc.setCell ⟨w1.heap.size, 0, none⟩ (.bool s)).setCell ⟨w1.heap.size, 1, none⟩ (.slice pa ka ca)).setCell ⟨w1.heap.size, 2, none⟩ (.slice none 0 0))) := hid (below_set3 hKc (Nat.le_refl _))
           have hXX : w1.heap.size ≤ w1.heap.size := Nat.le_refl _
           clear hBc hVn x0 x1 x2 y0 y1 y2 hRc
           generalize (((wc.setCell ⟨w1.heap.size, 0, none⟩ (.bool s)).setCell ⟨w1.heap.size, 1, none⟩ (.slice pa ka ca)).setCell ⟨w1.heap.size, 2, none⟩ (.slice none 0 0)) = WX at *
           obtain ⟨X, hX⟩ : ∃ X, X = w1.heap.size := ⟨_, rfl⟩
           rw [← hX] at hVX ⊢
           have hXX : w1.heap.size ≤ X := by omega
           clear hX)
        | (have hVX : Hid (Var3 (wc.alloc (.cells #[.bool s, .slice pa ka ca, .slice none 0 0] 24)) wc.heap.size (.bool s) (.slice pa ka ca) (.slice none 0 0)) := hid (Var3.alloc wc 24 trivial trivial trivial)
           have hRX := hid (hRc.alloc (.cells #[.bool s, .slice pa ka ca, .slice none 0 0] 24))
           have hKX := hid (below_al1 hKc (.cells #[.bool s, .slice pa ka ca, .slice none 0 0] 24))
           have hXX : w1.heap.size ≤ wc.heap.size := hKc.size
           clear hBc hRc
           generalize (wc.alloc (.cells #[.bool s, .slice pa ka ca, .slice none 0 0] 24)) = WX at *
           generalize wc.heap.size = X at *)
      clear hKc hWd
      obtain ⟨b0, b1, b2, _⟩ := HS.out WX hKX.out
      have hOne := IsOne_any _ d WX (HP.out.1.2.below hKX.out)
      have HP2 : Hid ((Rep W32 WX (.slice pa ka ca) n ∧ Rep W32 WX (.slice p2 k2 c2) d) ∧ Var3 WX X (.bool s) (.slice pa ka ca) (.slice none 0 0) ∧ Var3 WX (w.heap.size + 1) (.bool false) (.slice none 0 0) (.slice none 0 0) ∧ Below w.heap.size w WX) :=
        hid ⟨⟨hRX.out, HP.out.1.2.below hKX.out⟩, hVX.out, HP.out.2.1.2.below hKX.out, HP.out.2.2.trans (hKX.out.mono HP.out.2.2.size)⟩
      have hne : w.heap.size + 1 < X := by obtain ⟨_, h0, _⟩ := HP.out.2.1.2; exact Nat.lt_of_lt_of_le (Array.getElem?_eq_some_iff.1 h0).1 hXX
      clear HP HS hRX hKX hVX hXX
      by_cases h1 : d = 1
      · rw [decide_eq_true h1] at hOne
        have H1 := hid h1
        clear h1
        go_wp2_with fail
        refine hOne.mono ?_
        rintro e w' ⟨rfl, rfl⟩
        clear hOne
        obtain ⟨x0, x1, x2, _⟩ := HP2.out.2.1.cells
        obtain ⟨z0, z1, z2, r0, r1, r2⟩ := HP2.out.2.2.1.cells
        go_wp2_with fail
        exact Rat_ret rfl rfl (HP2.out.2.2.1.store trivial trivial trivial) ⟨below_set3 HP2.out.2.2.2 (Nat.le_succ _), .inr ⟨HBB.out.symm, _, rfl, _, _, rfl, HP2.out.1.1.store3 HP2.out.2.2.1 _ _ _, by rw [H1.out]; exact Rep.nil⟩⟩
      · rw [decide_eq_false h1] at hOne
        have H1 := hid h1
        clear h1
        go_wp2_with fail
        refine hOne.mono ?_
        rintro e w' ⟨rfl, rfl⟩
        clear hOne
        go_upto_region 6 with fail
        refine (words_any _ d WX HP2.out.1.2 HN.out.2).mono ?_
        rintro e w3 ⟨vq, rfl, hRq, hBq⟩
        obtain ⟨pb, kb, cb, rfl, _⟩ := id hRq
        obtain ⟨x0, x1, x2, m0, m1, m2⟩ := (HP2.out.2.1.below hBq).cells
        go_upto_region 6 with fail
        have HP3 : Hid ((Rep W32 (w3.setCell ⟨X, 2, none⟩ (.slice pb kb cb)) (.slice pa ka ca) n ∧ Rep W32 (w3.setCell ⟨X, 2, none⟩ (.slice pb kb cb)) (.slice pb kb cb) d) ∧ Var3 (w3.setCell ⟨X, 2, none⟩ (.slice pb kb cb)) X (.bool s) (.slice pa ka ca) (.slice pb kb cb) ∧ Var3 (w3.setCell ⟨X, 2, none⟩ (.slice pb kb cb)) (w.heap.size + 1) (.bool false) (.slice none 0 0) (.slice none 0 0) ∧ Below w.heap.size w (w3.setCell ⟨X, 2, none⟩ (.slice pb kb cb))) :=
          hid ⟨⟨(HP2.out.1.1.below hBq).set1 (HP2.out.2.1.below hBq) _ _, hRq.set1 (HP2.out.2.1.below hBq) _ _⟩, (HP2.out.2.1.below hBq).set2 trivial, (HP2.out.2.2.1.below hBq).other1 (Nat.ne_of_lt hne) _ _, (HP2.out.2.2.2.trans (hBq.mono HP2.out.2.2.2.size)).setCell (by show w.heap.size ≤ X; omega) _⟩
        clear hRq hBq x0 x1 x2 m0 m1 m2
        generalize w3.setCell ⟨X, 2, none⟩ (.slice pb kb cb) = W4 at *
        obtain ⟨x0, x1, x2, _⟩ := HP3.out.2.1.cells
        obtain ⟨z0, z1, z2, r0, r1, r2⟩ := HP3.out.2.2.1.cells
        go_wp2_with fail
        exact Rat_ret rfl rfl (HP3.out.2.2.1.store trivial trivial trivial) ⟨below_set3 HP3.out.2.2.2 (Nat.le_succ _), .inr ⟨HBB.out.symm, _, rfl, _, _, rfl, HP3.out.1.1.store3 HP3.out.2.2.1 _ _ _, by rw [show den0 d = d from if_neg H1.out]; exact HP3.out.1.2.store3 HP3.out.2.2.1 _ _ _⟩⟩
  · go_wp2_with fail
    exact Rat_ret rfl rfl (HP.out.2.1.2.store trivial trivial trivial) ⟨below_set3 HP.out.2.2 (Nat.le_succ _), .inl ⟨HBB.out.symm, rfl⟩⟩
end Go.Proofs.YtdinpeglclkjhaaDoor
