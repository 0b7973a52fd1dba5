/- Fractions of the program. -/
import Derived.Test.YtdinpeglclkjhaaDoorNatW
namespace Go.Proofs.YtdinpeglclkjhaaDoor
open Go.RowKit Dg

/-- The value v is a fraction: its sign, its numerator, its denominator. -/
def FRep (w : World) (v : Value) (s : Bool) (n d : Nat) : Prop := ∃ vn vd, v = .agg #[.bool s, vn, vd] ∧ Rep W32 w vn n ∧ Rep W32 w vd d
theorem FRep.below {w w' : World} {v : Value} {s : Bool} {n d : Nat} (h : FRep w v s n d) (hb : Below w.heap.size w w') : FRep w' v s n d := by
  obtain ⟨vn, vd, hv, h1, h2⟩ := h
  exact ⟨vn, vd, hv, h1.below hb, h2.below hb⟩

theorem bcell {W w1 : World} (hb : Below W.heap.size W w1) : (∀ b o, b < W.heap.size → w1.cell? ⟨b, o, none⟩ = W.cell? ⟨b, o, none⟩) ∧ (∀ b o, b < W.heap.size → w1.frozen? ⟨b, o, none⟩ = W.frozen? ⟨b, o, none⟩) :=
  ⟨fun b o h => hb.cell (p := ⟨b, o, none⟩) h, fun b o h => hb.frozen (p := ⟨b, o, none⟩) h⟩

def NotInt : Value → Prop | .int _ _ => False | _ => True
/-- The variable of a struct of three cells, none of them an integer. -/
def Var3 (w : World) (B : Nat) (x y z : Value) : Prop := ∃ t, w.heap[B]? = some (.cells #[x, y, z] t (0, 0)) ∧ NotInt x ∧ NotInt y ∧ NotInt z
theorem Var3.below {w w' : World} {B : Nat} {x y z : Value} (h : Var3 w B x y z) (hb : Below w.heap.size w w') : Var3 w' B x y z := by
  obtain ⟨t, h0, h1⟩ := h
  exact ⟨t, by rw [hb.block _ (Array.getElem?_eq_some_iff.1 h0).1]; exact h0, h1⟩
theorem Var3.alloc (w : World) {x y z : Value} (t : Nat) (hx : NotInt x) (hy : NotInt y) (hz : NotInt z) : Var3 (w.alloc (.cells #[x, y, z] t)) w.heap.size x y z :=
  ⟨t, heap_alloc_new w _, hx, hy, hz⟩
theorem Var3.cells {w : World} {B : Nat} {x y z : Value} (h : Var3 w B x y z) : w.cell? ⟨B, 0, none⟩ = some x ∧ w.cell? ⟨B, 1, none⟩ = some y ∧ w.cell? ⟨B, 2, none⟩ = some z ∧ w.frozen? ⟨B, 0, none⟩ = false ∧ w.frozen? ⟨B, 1, none⟩ = false ∧ w.frozen? ⟨B, 2, none⟩ = false := by
  obtain ⟨t, h0, _⟩ := h
  simp [World.cell?, World.frozen?, h0]
theorem Var3.store {w : World} {B : Nat} {a b c x y z : Value} (h : Var3 w B a b c) (hx : NotInt x) (hy : NotInt y) (hz : NotInt z) : Var3 (((w.setCell ⟨B, 0, none⟩ x).setCell ⟨B, 1, none⟩ y).setCell ⟨B, 2, none⟩ z) B x y z := by
  obtain ⟨t, h0, _⟩ := h
  refine ⟨t, ?_, hx, hy, hz⟩
  have h1 := heap_setCell_same w B 0 _ t x h0
  have h2 := heap_setCell_same _ B 1 _ t y h1
  have h3 := heap_setCell_same _ B 2 _ t z h2
  exact h3
theorem Rep.store3 {D : Nat} {w : World} {B : Nat} {a b c : Value} {v : Value} {n : Nat} (h : Rep D w v n) (hV : Var3 w B a b c) (x y z : Value) : Rep D (((w.setCell ⟨B, 0, none⟩ x).setCell ⟨B, 1, none⟩ y).setCell ⟨B, 2, none⟩ z) v n := by
  obtain ⟨p, k, cap, hv, hk, hl, hs⟩ := h
  refine ⟨p, k, cap, hv, hk, hl, fun h0 => ?_⟩
  obtain ⟨bb, off, hp, hc⟩ := hs h0
  obtain ⟨t, h1, na, nb, nc⟩ := hV
  have hne : bb ≠ B := by
    rintro rfl
    have hc0 := hc 0 h0
    rw [Nat.add_zero] at hc0
    simp only [World.cell?, h1] at hc0
    rcases off with _ | _ | _ | off
    · simp at hc0; subst hc0; exact na
    · simp at hc0; subst hc0; exact nb
    · simp at hc0; subst hc0; exact nc
    · simp at hc0
  refine ⟨bb, off, hp, fun j hj => ?_⟩
  rw [World.cell?_of_block (w := w) (a := ⟨bb, off + j, none⟩)]
  · exact hc j hj
  · show (((w.setCell ⟨B, 0, none⟩ x).setCell ⟨B, 1, none⟩ y).setCell ⟨B, 2, none⟩ z).heap[bb]? = _
    rw [Below.heap_setCell _ _ _ _ hne, Below.heap_setCell _ _ _ _ hne, Below.heap_setCell _ _ _ _ hne]

theorem sign_true {n g : Nat} (hg : g ∣ n) : (!decide (n / g = 0)) = (true && decide (n ≠ 0)) := by
  obtain ⟨k, rfl⟩ := hg
  rcases Nat.eq_zero_or_pos g with h | h
  · subst h; simp
  · rw [Nat.mul_div_cancel_left _ h]
    by_cases hk : k = 0
    · subst hk; simp
    · have : g * k ≠ 0 := Nat.mul_ne_zero (by omega) hk
      simp [hk, this]

theorem New_ret {W : World} {B : Nat} {x y z : Value} {tm : Array Value} {R : Ending → World → Prop} (h6 : tm[6]?.getD undef = .pointer (some ⟨B, 0, none⟩)) (hV : Var3 W B x y z) (hR : R (.returned (.agg #[x, y, z])) W) :
    bodyPost Tryd.prog Tryd.f105 R .ret { tmps := tm, defers := [] } W := by
  obtain ⟨c0, c1, c2, _, _, _⟩ := hV.cells
  exact bodyPost_ret (v := .agg #[x, y, z]) (by simp [results, Tryd.results105, go_sem, h6, c0, c1, c2]) rfl hR
theorem below_store3 {w W : World} (h : Below w.heap.size w W) (x y z : Value) : Below w.heap.size w (((W.setCell ⟨w.heap.size, 0, none⟩ x).setCell ⟨w.heap.size, 1, none⟩ y).setCell ⟨w.heap.size, 2, none⟩ z) :=
  ((h.setCell (Nat.le_refl _) _).setCell (Nat.le_refl _) _).setCell (Nat.le_refl _) _

set_option maxHeartbeats 2000000 in
set_option maxRecDepth 100000 in
theorem New_any (s : Bool) (vn vd : Value) (n d : Nat) (w : World) (hn : Rep W32 w vn n) (hd : Rep W32 w vd d) (hnB : n < W32 ^ 20000000) (hdB : d < W32 ^ 20000000) (hd0 : 0 < d) (ht : TabOk w) :
    Calls Tryd.prog 105 #[.bool s, vn, vd] w fun e w' => ∃ v, e = .returned v ∧ FRep w' v (s && decide (n ≠ 0)) (n / Nat.gcd n d) (d / Nat.gcd n d) ∧ Below w.heap.size w w' := by
  cases s
  all_goals
    go_enter Tryd.func105, Tryd.ntmps105
    go_wp2_with fail
    have hV0 := Var3.alloc w (x := .bool false) (y := .slice none 0 0) (z := .slice none 0 0) 54 trivial trivial trivial
    have hB0 : Below w.heap.size w (w.alloc (.cells #[.bool false, .slice none 0 0, .slice none 0 0] 54)) := (Below.refl _ _).alloc (Nat.le_refl _) _
    generalize hw0 : w.alloc (.cells #[.bool false, .slice none 0 0, .slice none 0 0] 54) = w0 at *
    refine (Gcd_any vn vd n d w0 (hn.below hB0) (hd.below hB0) hnB hdB (ht.below hB0)).mono ?_
    rintro e w1 ⟨vg, rfl, hRg, hB1⟩
    obtain ⟨G, hG⟩ : ∃ G, G = Nat.gcd n d := ⟨_, rfl⟩
    have hG0 : 0 < Nat.gcd n d := Nat.gcd_pos_of_pos_right _ hd0
    have hGn := Nat.gcd_dvd_left n d
    have hone := IsOne_any vg (Nat.gcd n d) w1 hRg
    have HH := hid (And.intro ((hn.below hB0).below hB1) (And.intro ((hd.below hB0).below hB1) (And.intro hRg (And.intro (hV0.below hB1) (And.intro (hB0.trans (hB1.mono hB0.size)) (And.intro ((ht.below hB0).below hB1) (And.intro hG0 hGn)))))))
    have HL := hid (And.intro hnB (And.intro hdB hd0))
    clear hn hd hnB hdB hd0 ht hV0 hB0 hw0 hRg hB1 hG0 hGn hG
    by_cases h1 : Nat.gcd n d = 1
    case' pos =>
      rw [decide_eq_true h1] at hone
      have HP : Hid (Rep W32 w1 vn (n / Nat.gcd n d) ∧ Rep W32 w1 vd (d / Nat.gcd n d) ∧ Var3 w1 w.heap.size (.bool false) (.slice none 0 0) (.slice none 0 0) ∧ Below w.heap.size w w1) :=
        hid ⟨by rw [h1, Nat.div_one]; exact HH.out.1, by rw [h1, Nat.div_one]; exact HH.out.2.1, HH.out.2.2.2.1, HH.out.2.2.2.2.1⟩
      have Hz := hid (And.intro HH.out.2.2.2.2.2.2.1 HH.out.2.2.2.2.2.2.2)
      clear h1 HH
      go_wp2_with fail
      refine hone.mono ?_
      rintro e w' ⟨rfl, rfl⟩
      clear hone
      obtain ⟨c0, c1, c2, f0, f1, f2⟩ := HP.out.2.2.1.cells
      have hz := IsZero_any _ _ _ HP.out.1
      obtain ⟨Zb, hZb⟩ : ∃ Zb, Zb = decide (n / Nat.gcd n d = 0) := ⟨_, rfl⟩
      rw [← hZb] at hz
      have HZ := hid hZb
      clear hZb
      obtain ⟨p1, n1, k1, rfl, _, _, _⟩ := HP.out.1
      obtain ⟨p2, n2, k2, rfl, _, _, _⟩ := HP.out.2.1
      go_wp2_with fail
    case' neg =>
      rw [decide_eq_false h1] at hone
      clear h1
      go_wp2_with fail
      refine hone.mono ?_
      rintro e w' ⟨rfl, rfl⟩
      clear hone
      go_wp2_with fail
      have hGB : Nat.gcd n d < W32 ^ 900000000 := Nat.lt_of_le_of_lt (Nat.le_of_dvd HL.out.2.2 (Nat.gcd_dvd_right n d)) (lt_9 HL.out.2.1 (by omega))
      refine (Div_any vn vg n (Nat.gcd n d) w1 HH.out.1 HH.out.2.2.1 (lt_9 HL.out.1 (by omega)) hGB HH.out.2.2.2.2.2.2.1 HH.out.2.2.2.2.2.1).mono ?_
      rintro e w2 ⟨q1, r1, rfl, hR1, _, hB1⟩
      have H1 := hid (And.intro hR1 hB1)
      clear hR1 hB1 hGB
      go_wp2_with fail
      have hGB : Nat.gcd n d < W32 ^ 900000000 := Nat.lt_of_le_of_lt (Nat.le_of_dvd HL.out.2.2 (Nat.gcd_dvd_right n d)) (lt_9 HL.out.2.1 (by omega))
      refine (Div_any vd vg d (Nat.gcd n d) w2 (HH.out.2.1.below H1.out.2) (HH.out.2.2.1.below H1.out.2) (lt_9 HL.out.2.1 (by omega)) hGB HH.out.2.2.2.2.2.2.1 (HH.out.2.2.2.2.2.1.below H1.out.2)).mono ?_
      rintro e w3 ⟨q2, r2, rfl, hR2, _, hB2⟩
      have HP : Hid (Rep W32 w3 q1 (n / Nat.gcd n d) ∧ Rep W32 w3 q2 (d / Nat.gcd n d) ∧ Var3 w3 w.heap.size (.bool false) (.slice none 0 0) (.slice none 0 0) ∧ Below w.heap.size w w3) :=
        hid ⟨H1.out.1.below hB2, hR2, (HH.out.2.2.2.1.below H1.out.2).below hB2, HH.out.2.2.2.2.1.trans ((H1.out.2.mono HH.out.2.2.2.2.1.size).trans (hB2.mono (Nat.le_trans HH.out.2.2.2.2.1.size H1.out.2.size)))⟩
      have Hz := hid (And.intro HH.out.2.2.2.2.2.2.1 HH.out.2.2.2.2.2.2.2)
      clear HH H1 hR2 hB2 hGB
      obtain ⟨c0, c1, c2, f0, f1, f2⟩ := HP.out.2.2.1.cells
      have hz := IsZero_any _ _ _ HP.out.1
      obtain ⟨Zb, hZb⟩ : ∃ Zb, Zb = decide (n / Nat.gcd n d = 0) := ⟨_, rfl⟩
      rw [← hZb] at hz
      have HZ := hid hZb
      clear hZb
      obtain ⟨p1, n1, k1, rfl, _, _, _⟩ := HP.out.1
      obtain ⟨p2, n2, k2, rfl, _, _, _⟩ := HP.out.2.1
      go_wp2_with fail
    all_goals
      first
        | (refine hz.mono ?_
           rintro e w' ⟨rfl, rfl⟩
           go_wp2_with fail)
        | skip
    all_goals
      have hg := Hz.out.2
      refine New_ret rfl (HP.out.2.2.1.store trivial trivial trivial) ⟨_, rfl, ⟨_, _, ?_, HP.out.1.store3 HP.out.2.2.1 _ _ _, HP.out.2.1.store3 HP.out.2.2.1 _ _ _⟩, below_store3 HP.out.2.2.2 _ _ _⟩
      first
        | rfl
        | (rw [← sign_true hg, ← HZ.out])
end Go.Proofs.YtdinpeglclkjhaaDoor
