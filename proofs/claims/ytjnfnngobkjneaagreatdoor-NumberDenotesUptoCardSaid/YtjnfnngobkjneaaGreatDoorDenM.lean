/- Words times a small number; the state of the law's helper scaled. -/
import Derived.Test.YtjnfnngobkjneaaGreatDoorTxtM
namespace Go.Proofs.YtjnfnngobkjneaaGreatDoor
open Go.RowKit Dg

/-- The carry behind j words. -/
def cy (x m j : Nat) : Nat := (x % W32 ^ j) * m / W32 ^ j
theorem cy_zero (x m : Nat) : cy x m 0 = 0 := by unfold cy; simp [Nat.mod_one]
theorem cy_lt {x m j : Nat} (hm : 0 < m) : cy x m j < m := by
  unfold cy
  exact Nat.div_lt_of_lt_mul (Nat.mul_lt_mul_of_pos_right (Nat.mod_lt _ (Nat.pow_pos W32_pos)) hm)
theorem cy_step (x m j : Nat) : (cy x m j + dg W32 x j * m) % W32 = dg W32 (x * m) j ∧ (cy x m j + dg W32 x j * m) / W32 = cy x m (j + 1) := by
  have hP : 0 < W32 ^ j := Nat.pow_pos W32_pos
  unfold cy dg
  rw [Nat.pow_succ]
  generalize W32 ^ j = P at *
  constructor
  · have e : x * m / P = x % P * m / P + x / P * m := by
      conv => lhs; rw [← Nat.mod_add_div x P]
      rw [Nat.add_mul, Nat.mul_assoc, Nat.add_mul_div_left _ _ hP]
    rw [e]
    have e2 : x / P * m = x / P % W32 * m + W32 * (x / P / W32 * m) := by
      conv => lhs; rw [← Nat.mod_add_div (x / P) W32]
      rw [Nat.add_mul, Nat.mul_assoc]
    conv => rhs; rw [e2, ← Nat.add_assoc, Nat.add_mul_mod_self_left]
  · rw [Nat.mod_mul, ← Nat.div_div_eq_div_mul, Nat.add_mul, Nat.mul_assoc, Nat.add_mul_div_left _ _ hP]
theorem cy_end {x m n : Nat} (hx : x < W32 ^ n) (hm : 0 < m) (hm2 : m ≤ 65536) : dg W32 (x * m) n = cy x m n ∧ dg W32 (x * m) (n + 1) = 0 ∧ x * m < W32 ^ (n + 2) := by
  have hP : 0 < W32 ^ n := Nat.pow_pos W32_pos
  have hc := cy_lt (x := x) (j := n) hm
  have hw : (65536 : Nat) < W32 := by decide
  have e : cy x m n = x * m / W32 ^ n := by unfold cy; rw [Nat.mod_eq_of_lt hx]
  unfold dg
  rw [Nat.pow_succ, ← Nat.div_div_eq_div_mul, ← e, Nat.mod_eq_of_lt (by omega), Nat.div_eq_of_lt (by omega)]
  refine ⟨rfl, Nat.zero_mod _, ?_⟩
  rw [Nat.pow_succ, Nat.pow_succ, Nat.mul_assoc]
  exact Nat.mul_lt_mul_of_lt_of_le hx (Nat.le_trans hm2 (by decide)) (by decide)

/-- A slice of n words that hold x. -/
def RawN (w : World) (v : Value) (x n : Nat) : Prop := ∃ p c, v = .slice p n c ∧ n ≤ c ∧ x < W32 ^ n ∧ Slc w p n (dg W32 x)
theorem RawN.below {w w' : World} {v : Value} {x n : Nat} (h : RawN w v x n) (hb : Below w.heap.size w w') : RawN w' v x n := by
  obtain ⟨p, c, hv, h1, h2, h3⟩ := h
  exact ⟨p, c, hv, h1, h2, h3.below hb⟩
theorem RawN.raw {w : World} {v : Value} {x n : Nat} (h : RawN w v x n) (hn : n ≤ 1000) : Raw w v x := by
  obtain ⟨p, c, hv, h1, h2, h3⟩ := h
  exact ⟨p, n, c, hv, h1, by omega, h2, h3⟩
theorem Slc.set1 {w : World} {B n : Nat} {a b c : Value} {p : Option Addr} {f : Nat → Nat} (hs : Slc w p n f) (hV : Var3 w B a b c) (k : Nat) (u : Value) : Slc (w.setCell ⟨B, k, none⟩ u) p n f := fun h0 => by
  obtain ⟨bb, off, hp, hc⟩ := hs h0
  obtain ⟨t, h1, na, nb, nc⟩ := hV
  have hne : bb ≠ B := by
    rintro rfl
    have hc0 := hc 0 h0
    rw [Nat.add_zero] at hc0
    simp only [World.cell?, h1] at hc0
    rcases off with _ | _ | _ | off
    · simp at hc0; subst hc0; exact na
    · simp at hc0; subst hc0; exact nb
    · simp at hc0; subst hc0; exact nc
    · simp at hc0
  refine ⟨bb, off, hp, fun j hj => ?_⟩
  rw [World.cell?_of_block (w := w) (a := ⟨bb, off + j, none⟩)]
  · exact hc j hj
  · show (w.setCell ⟨B, k, none⟩ u).heap[bb]? = _
    rw [Below.heap_setCell _ _ _ _ hne]
theorem RawN.set1 {w : World} {B : Nat} {a b c : Value} {v : Value} {x n : Nat} (h : RawN w v x n) (hV : Var3 w B a b c) (k : Nat) (u : Value) : RawN (w.setCell ⟨B, k, none⟩ u) v x n := by
  obtain ⟨p, q, hv, h1, h2, h3⟩ := h
  exact ⟨p, q, hv, h1, h2, h3.set1 hV k u⟩
theorem Var3.setA {w : World} {B : Nat} {x y z y' : Value} (h : Var3 w B x y z) (hy : NotInt y') : Var3 (w.setCell ⟨B, 1, none⟩ y') B x y' z := by
  obtain ⟨t, h0, hx, _, hz⟩ := h
  exact ⟨t, heap_setCell_same w B 1 _ t y' h0, hx, hy, hz⟩

/-- The state of scaled between the words: the result's variable R, the new number O, the list L of the two slices. -/
structure ScSt (w0 wr : World) (R O L : Nat) (s : Bool) (P : Nat → Option Addr) (N C X : Nat → Nat) (y z : Value) : Prop where
  b : Below w0.heap.size w0 wr
  ho : w0.heap.size ≤ O
  hr : w0.heap.size ≤ R
  ne : R ≠ O
  nl : L ≠ O
  r : Var3 wr R (.bool false) (.slice none 0 0) (.slice none 0 0)
  o : Var3 wr O (.bool s) y z
  l : ∀ j, j < 2 → wr.cell? ⟨L, j, none⟩ = some (.slice (P j) (N j) (C j))
  w : ∀ j, j < 2 → RawN wr (.slice (P j) (N j) (C j)) (X j) (N j)
theorem ScSt.below {w0 wr wr' : World} {R O L : Nat} {s : Bool} {P : Nat → Option Addr} {N C X : Nat → Nat} {y z : Value} (h : ScSt w0 wr R O L s P N C X y z) (hb : Below wr.heap.size wr wr') : ScSt w0 wr' R O L s P N C X y z :=
  ⟨h.b.trans (hb.mono h.b.size), h.ho, h.hr, h.ne, h.nl, h.r.below hb, h.o.below hb, fun j hj => by
    have h1 := h.l j hj
    rw [hb.cell (p := ⟨L, j, none⟩) (World.block_lt_of_cell? _ _ h1)]; exact h1, fun j hj => (h.w j hj).below hb⟩
theorem ScSt.other {w0 wr : World} {R O L : Nat} {s : Bool} {P : Nat → Option Addr} {N C X : Nat → Nat} {y z : Value} (h : ScSt w0 wr R O L s P N C X y z) (k : Nat) (u : Value) :
    Below w0.heap.size w0 (wr.setCell ⟨O, k, none⟩ u) ∧ Var3 (wr.setCell ⟨O, k, none⟩ u) R (.bool false) (.slice none 0 0) (.slice none 0 0) ∧ (∀ j, j < 2 → (wr.setCell ⟨O, k, none⟩ u).cell? ⟨L, j, none⟩ = some (.slice (P j) (N j) (C j))) ∧ (∀ j, j < 2 → RawN (wr.setCell ⟨O, k, none⟩ u) (.slice (P j) (N j) (C j)) (X j) (N j)) :=
  ⟨h.b.setCell h.ho u, h.r.other1 h.ne k u, fun j hj => by
    rw [World.cell?_of_block (w := wr) (a := ⟨L, j, none⟩)]
    · exact h.l j hj
    · show (wr.setCell ⟨O, k, none⟩ u).heap[L]? = _
      rw [Below.heap_setCell _ _ _ _ h.nl], fun j hj => (h.w j hj).set1 h.o k u⟩
theorem ScSt.setA {w0 wr : World} {R O L : Nat} {s : Bool} {P : Nat → Option Addr} {N C X : Nat → Nat} {y z y' : Value} (h : ScSt w0 wr R O L s P N C X y z) (hy : NotInt y') : ScSt w0 (wr.setCell ⟨O, 1, none⟩ y') R O L s P N C X y' z :=
  have k := h.other 1 y'
  ⟨k.1, h.ho, h.hr, h.ne, h.nl, k.2.1, h.o.setA hy, k.2.2.1, k.2.2.2⟩
theorem ScSt.setB {w0 wr : World} {R O L : Nat} {s : Bool} {P : Nat → Option Addr} {N C X : Nat → Nat} {y z z' : Value} (h : ScSt w0 wr R O L s P N C X y z) (hz : NotInt z') : ScSt w0 (wr.setCell ⟨O, 2, none⟩ z') R O L s P N C X y z' :=
  have k := h.other 2 z'
  ⟨k.1, h.ho, h.hr, h.ne, h.nl, k.2.1, h.o.set2 hz, k.2.2.1, k.2.2.2⟩

theorem RawN.store3 {w : World} {B : Nat} {a b c : Value} {v : Value} {x n : Nat} (h : RawN w v x n) (hV : Var3 w B a b c) (u1 u2 u3 : Value) : RawN (((w.setCell ⟨B, 0, none⟩ u1).setCell ⟨B, 1, none⟩ u2).setCell ⟨B, 2, none⟩ u3) v x n := by
  obtain ⟨p, q, hv, h1, h2, hs⟩ := h
  refine ⟨p, q, hv, h1, h2, fun h0 => ?_⟩
  obtain ⟨bb, off, hp, hc⟩ := hs h0
  obtain ⟨t, h1, na, nb, nc⟩ := hV
  have hne : bb ≠ B := by
    rintro rfl
    have hc0 := hc 0 h0
    rw [Nat.add_zero] at hc0
    simp only [World.cell?, h1] at hc0
    rcases off with _ | _ | _ | off
    · simp at hc0; subst hc0; exact na
    · simp at hc0; subst hc0; exact nb
    · simp at hc0; subst hc0; exact nc
    · simp at hc0
  refine ⟨bb, off, hp, fun j hj => ?_⟩
  rw [World.cell?_of_block (w := w) (a := ⟨bb, off + j, none⟩)]
  · exact hc j hj
  · show (((w.setCell ⟨B, 0, none⟩ u1).setCell ⟨B, 1, none⟩ u2).setCell ⟨B, 2, none⟩ u3).heap[bb]? = _
    rw [Below.heap_setCell _ _ _ _ hne, Below.heap_setCell _ _ _ _ hne, Below.heap_setCell _ _ _ _ hne]

def sel {α : Type} (a b : α) (j : Nat) : α := if j = 0 then a else b
theorem Var3.lt {w : World} {B : Nat} {x y z : Value} (h : Var3 w B x y z) : B < w.heap.size := by
  obtain ⟨t, h1, _⟩ := h
  exact (Array.getElem?_eq_some_iff.1 h1).1
theorem ScSt.start {w w3 : World} {R O t : Nat} {s : Bool} {pn pd : Option Addr} {nn cn nd cd xn xd : Nat} (hb : Below w.heap.size w w3) (ho : w.heap.size ≤ O) (hr : w.heap.size ≤ R) (hne : R ≠ O)
    (vr : Var3 w3 R (.bool false) (.slice none 0 0) (.slice none 0 0)) (vo : Var3 w3 O (.bool s) (.slice none 0 0) (.slice none 0 0)) (h1 : RawN w3 (.slice pn nn cn) xn nn) (h2 : RawN w3 (.slice pd nd cd) xd nd) :
    ScSt w (w3.alloc (.cells #[.slice pn nn cn, .slice pd nd cd] t)) R O w3.heap.size s (sel pn pd) (sel nn nd) (sel cn cd) (sel xn xd) (.slice none 0 0) (.slice none 0 0) := by
  have hal := (Below.refl w3.heap.size w3).alloc (Nat.le_refl _) (.cells #[.slice pn nn cn, .slice pd nd cd] t)
  have hlt := vo.lt
  have hn := heap_alloc_new w3 (.cells #[.slice pn nn cn, .slice pd nd cd] t)
  refine ⟨hb.trans (hal.mono hb.size), ho, hr, hne, by omega, vr.below hal, vo.below hal, fun j hj => ?_, fun j hj => ?_⟩
  · rcases (show j = 0 ∨ j = 1 by omega) with rfl | rfl
    · simp only [World.cell?, hn]; rfl
    · simp only [World.cell?, hn]; rfl
  · rcases (show j = 0 ∨ j = 1 by omega) with rfl | rfl
    · exact h1.below hal
    · exact h2.below hal
end Go.Proofs.YtjnfnngobkjneaaGreatDoor
