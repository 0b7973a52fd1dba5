/- Fractions of the program: Sign, Neg, Abs, sense. -/
import Derived.Test.YtdinpeglclkjhaaDoorFracC
import Derived.Deep.RegionHeld3
namespace Go.Proofs.YtdinpeglclkjhaaDoor
open Go.RowKit Dg

/-- -1, 0 or 1. -/
def sgn (s : Bool) (n : Nat) : Int := if s then -1 else if n = 0 then 0 else 1

set_option maxHeartbeats 1000000 in
set_option maxRecDepth 100000 in
theorem Sign_any (v : Value) (s : Bool) (n d : Nat) (w : World) (h : FRep w v s n d) :
    Calls Tryd.prog 69 #[v] w fun e w' => e = .returned (.int .i64 (sgn s n)) ∧ Below w.heap.size w w' := by
  obtain ⟨vn, vd, rfl, hn, hd⟩ := h
  have HR := hid (And.intro hn hd)
  obtain ⟨p1, k1, c1, rfl, _, _, _⟩ := hn
  obtain ⟨p2, k2, c2, rfl, _, _, _⟩ := hd
  cases s
  · by_cases h0 : n = 0
    all_goals
      first | have H0 : Hid (sgn false n = 0 ∧ decide (n = 0) = true) := hid ⟨by simp [sgn, h0], decide_eq_true h0⟩ | have H0 : Hid (sgn false n = 1 ∧ decide (n = 0) = false) := hid ⟨by simp [sgn, h0], decide_eq_false h0⟩
      clear h0
      go_enter Tryd.func69, Tryd.ntmps69
      go_wp2_with fail
      have hz := IsZero_any _ n _ (HR.out.1.alloc (.cells #[.bool false, .slice p1 k1 c1, .slice p2 k2 c2] 54))
      rw [H0.out.2] at hz
      refine hz.mono ?_
      rintro e w' ⟨rfl, rfl⟩
      clear hz
      go_wp2_with fail
      go_ret
      exact ⟨by rw [H0.out.1]; rfl, (Below.refl _ _).alloc (Nat.le_refl _) _⟩
  · go_enter Tryd.func69, Tryd.ntmps69
    go_wp2_with fail
    go_ret
    exact ⟨rfl, (Below.refl _ _).alloc (Nat.le_refl _) _⟩

set_option maxHeartbeats 1000000 in
set_option maxRecDepth 100000 in
theorem sense_any (v : Value) (s : Bool) (n d : Nat) (w : World) (h : FRep w v s n d) :
    Calls Tryd.prog 112 #[v] w fun e w' => e = .returned (.int .i64 (if s then -1 else 1)) ∧ Below w.heap.size w w' := by
  obtain ⟨vn, vd, rfl, hn, hd⟩ := h
  obtain ⟨p1, k1, c1, rfl, _, _, _⟩ := hn
  obtain ⟨p2, k2, c2, rfl, _, _, _⟩ := hd
  cases s
  all_goals
    go_enter Tryd.func112, Tryd.ntmps112
    go_wp2_with fail
    go_ret
    exact ⟨rfl, (Below.refl _ _).alloc (Nat.le_refl _) _⟩

theorem Var3.alloc2 (w : World) (o : Obj) {x y z : Value} (t : Nat) (hx : NotInt x) (hy : NotInt y) (hz : NotInt z) : Var3 ((w.alloc o).alloc (.cells #[x, y, z] t)) (w.heap.size + 1) x y z := by
  have h := Var3.alloc (w.alloc o) t hx hy hz
  rwa [World.size_alloc] at h
theorem below_alloc2 (w : World) (o o' : Obj) : Below w.heap.size w ((w.alloc o).alloc o') := ((Below.refl _ _).alloc (Nat.le_refl _) _).alloc (by rw [World.size_alloc]; omega) _

theorem bcellN {N : Nat} {W w1 : World} (hb : Below N W w1) (b o : Nat) (h : b < N) : w1.cell? ⟨b, o, none⟩ = W.cell? ⟨b, o, none⟩ := hb.cell (p := ⟨b, o, none⟩) h
theorem held3 {N : Nat} {W0 W w' : World} {a b c : Prop} (h : a ∧ b ∧ c ∧ Hid (Below N W0 W)) (hB : Below W.heap.size W w') (hN : N ≤ W0.heap.size) : Below N W0 w' :=
  h.2.2.2.out.trans (hB.mono (Nat.le_trans hN h.2.2.2.out.size))
theorem below_set3 {N B : Nat} {W0 W : World} {x y z : Value} (h : Below N W0 W) (hN : N ≤ B) : Below N W0 (((W.setCell ⟨B, 0, none⟩ x).setCell ⟨B, 1, none⟩ y).setCell ⟨B, 2, none⟩ z) := ((h.setCell hN _).setCell hN _).setCell hN _

/-- A function whose one result is the struct in slot k's variable. -/
theorem Abs_ret {W : World} {B : Nat} {x y z : Value} {tm : Array Value} {R : Ending → World → Prop} (h2 : tm[2]?.getD undef = .pointer (some ⟨B, 0, none⟩)) (hV : Var3 W B x y z) (hR : R (.returned (.agg #[x, y, z])) W) :
    bodyPost Tryd.prog Tryd.f71 R .ret { tmps := tm, defers := [] } W := by
  obtain ⟨c0, c1, c2, _, _, _⟩ := hV.cells
  exact bodyPost_ret (v := .agg #[x, y, z]) (by simp [results, Tryd.results71, go_sem, h2, c0, c1, c2]) rfl hR

theorem Neg_ret {W : World} {B : Nat} {x y z : Value} {tm : Array Value} {R : Ending → World → Prop} (h2 : tm[2]?.getD undef = .pointer (some ⟨B, 0, none⟩)) (hV : Var3 W B x y z) (hR : R (.returned (.agg #[x, y, z])) W) :
    bodyPost Tryd.prog Tryd.f70 R .ret { tmps := tm, defers := [] } W := by
  obtain ⟨c0, c1, c2, _, _, _⟩ := hV.cells
  exact bodyPost_ret (v := .agg #[x, y, z]) (by simp [results, Tryd.results70, go_sem, h2, c0, c1, c2]) rfl hR

set_option maxHeartbeats 1000000 in
set_option maxRecDepth 100000 in
theorem Abs_any (v : Value) (s : Bool) (n d : Nat) (w : World) (h : FRep w v s n d) :
    Calls Tryd.prog 71 #[v] w fun e w' => ∃ v', e = .returned v' ∧ FRep w' v' false n d ∧ Below w.heap.size w w' := by
  obtain ⟨vn, vd, rfl, hn, hd⟩ := h
  have HR := hid (And.intro hn hd)
  obtain ⟨p1, k1, c1, rfl, _, _, _⟩ := hn
  obtain ⟨p2, k2, c2, rfl, _, _, _⟩ := hd
  go_enter Tryd.func71, Tryd.ntmps71
  go_wp2_with fail
  exact Abs_ret rfl (Var3.alloc2 w _ 54 trivial trivial trivial) ⟨_, rfl, ⟨_, _, rfl, HR.out.1.alloc _ |>.alloc _, HR.out.2.alloc _ |>.alloc _⟩, below_alloc2 w _ _⟩

set_option maxHeartbeats 1000000 in
set_option maxRecDepth 100000 in
theorem Neg_any (v : Value) (s : Bool) (n d : Nat) (w : World) (h : FRep w v s n d) :
    Calls Tryd.prog 70 #[v] w fun e w' => ∃ v', e = .returned v' ∧ FRep w' v' (!s && decide (n ≠ 0)) n d ∧ Below w.heap.size w w' := by
  obtain ⟨vn, vd, rfl, hn, hd⟩ := h
  have HR := hid (And.intro hn hd)
  obtain ⟨p1, k1, c1, rfl, _, _, _⟩ := hn
  obtain ⟨p2, k2, c2, rfl, _, _, _⟩ := hd
  obtain ⟨sg, hsg⟩ : ∃ sg, sg = (!s && decide (n ≠ 0)) := ⟨_, rfl⟩
  have hgt : decide ((0 : Int) < sgn s n) = sg := by rw [hsg]; unfold sgn; cases s <;> by_cases h0 : n = 0 <;> simp [h0]
  rw [← hsg]
  obtain ⟨g, hg⟩ : ∃ g, g = sgn s n := ⟨_, rfl⟩
  have hSign : Hid (∀ W, Rep W32 W (.slice p1 k1 c1) n → Rep W32 W (.slice p2 k2 c2) d → Calls Tryd.prog 69 #[.agg #[.bool s, .slice p1 k1 c1, .slice p2 k2 c2]] W fun e w' => e = .returned (.int .i64 g) ∧ Below W.heap.size W w') :=
    hid fun W h1 h2 => by rw [hg]; exact Sign_any _ s n d W ⟨_, _, rfl, h1, h2⟩
  rw [← hg] at hgt
  clear hg hsg
  go_enter Tryd.func70, Tryd.ntmps70
  go_wp2_with fail
  have hV0 := (Var3.alloc w (x := .bool s) (y := .slice p1 k1 c1) (z := .slice p2 k2 c2) 54 trivial trivial trivial).below ((Below.refl _ _).alloc (Nat.le_refl _) (.cells #[.bool false, .slice none 0 0, .slice none 0 0] 54))
  have hV2 := Var3.alloc2 w (.cells #[.bool s, .slice p1 k1 c1, .slice p2 k2 c2] 54) (x := .bool false) (y := .slice none 0 0) (z := .slice none 0 0) 54 trivial trivial trivial
  have hB0 := below_alloc2 w (.cells #[.bool s, .slice p1 k1 c1, .slice p2 k2 c2] 54) (.cells #[.bool false, .slice none 0 0, .slice none 0 0] 54)
  generalize hW0 : (w.alloc (.cells #[.bool s, .slice p1 k1 c1, .slice p2 k2 c2] 54)).alloc (.cells #[.bool false, .slice none 0 0, .slice none 0 0] 54) = W0 at *
  clear hW0
  have hn1 : w.heap.size + 1 ≤ W0.heap.size := by obtain ⟨_, h0, _⟩ := hV2; exact Nat.succ_le_of_lt (Nat.lt_of_succ_lt (Array.getElem?_eq_some_iff.1 h0).1)
  have HS : Hid (∀ w', Below (w.heap.size + 1) W0 w' → (w'.cell? ⟨w.heap.size, 0, none⟩ = some (.bool s) ∧ w'.cell? ⟨w.heap.size, 1, none⟩ = some (.slice p1 k1 c1) ∧ w'.cell? ⟨w.heap.size, 2, none⟩ = some (.slice p2 k2 c2) ∧ Hid (Below (w.heap.size + 1) W0 w'))) :=
    hid fun w' hb => ⟨(bcellN hb _ _ (Nat.lt_succ_self _)).trans hV0.cells.1, (bcellN hb _ _ (Nat.lt_succ_self _)).trans hV0.cells.2.1, (bcellN hb _ _ (Nat.lt_succ_self _)).trans hV0.cells.2.2.1, hid hb⟩
  have HV := hid (And.intro (hV2.below (Below.refl _ _).drew) (And.intro hV0 hB0))
  clear hV0 hV2 hB0
  go_region_held3 (fun w' => w'.cell? ⟨w.heap.size, 0, none⟩ = some (.bool s) ∧ w'.cell? ⟨w.heap.size, 1, none⟩ = some (.slice p1 k1 c1) ∧ w'.cell? ⟨w.heap.size, 2, none⟩ = some (.slice p2 k2 c2) ∧ Hid (Below (w.heap.size + 1) W0 w'))
    (first | exact HS.out _ (Below.refl _ _).drew | (exact HS.out _ (by assumption)) | exact HS.out _ (below_set3 (by assumption) (Nat.le_refl _)))
    (first | (go_at_call 69; refine (hSign.out _ ((HR.out.1.below HV.out.2.2).drew) ((HR.out.2.below HV.out.2.2).drew)).mono ?_
              rintro e w1 ⟨rfl, hB⟩
              have hBN := held3 (N := w.heap.size + 1) (W0 := W0) (by assumption) hB hn1
              obtain ⟨x0, x1, x2, y0, y1, y2⟩ := (HV.out.1.below hB).cells))
  rename_i hHeld
  clear hHeld
  go_wp2_with fail
  have hV := HV.out.1.below hB
  exact Neg_ret rfl (hV.store trivial trivial trivial) ⟨_, rfl, ⟨_, _, rfl, (((HR.out.1.below HV.out.2.2).drew).below hB).store3 hV _ _ _, (((HR.out.2.below HV.out.2.2).drew).below hB).store3 hV _ _ _⟩, below_set3 ((HV.out.2.2.trans ((Below.refl _ _).drew)).trans (hB.mono HV.out.2.2.size)) (Nat.le_succ _) ⟩
end Go.Proofs.YtdinpeglclkjhaaDoor
