/- Sums of both sides: the mathematics. -/
import Derived.Test.YtpdpabpdejmdbaaGreatDoorPlsJ
import Derived.Test.YtpdpabpdejmdbaaGreatDoorAwkI
import Derived.Test.YtpdpabpdejmdbaaGreatDoorRndL
import Derived.Test.YtpdpabpdejmdbaaGreatDoorNegJ
namespace Go.Proofs.YtpdpabpdejmdbaaGreatDoor
open Go.RowKit Dg
def JW (A : Nat) (r : (Bool × Nat × Nat) × (Bool × Nat × Nat) × Bool × Bool × Bool) : Prop := r = jnone ∨ (JFr r ∧ (r.1.2.1 < W32 ^ A ∧ r.1.2.2 < W32 ^ A) ∧ (r.2.1.2.1 < W32 ^ A ∧ r.2.1.2.2 < W32 ^ A))
theorem JGood.wide {r : (Bool × Nat × Nat) × (Bool × Nat × Nat) × Bool × Bool × Bool} (h : JGood r) : JW 64 r := by
 by_cases he : r.2.2.2.2 = true
 ·rcases h with h | ⟨h, _⟩
  ·exact .inl h
  ·rw [he] at h; exact absurd h (by decide)
 ·have hf := h.fr (by simpa using he)
  rcases h with h | ⟨_, hl, hh, _⟩
  ·exact .inl h
  ·refine .inr ⟨hf, ?_, ?_⟩
   ·rcases hl with ⟨_, hl⟩ | ⟨_, hl⟩
    ·rw [hl]; exact ⟨Nat.pow_pos W32_pos, Nat.pow_pos W32_pos⟩
    ·exact hl.2
   ·rcases hh with ⟨_, hl⟩ | ⟨_, hl⟩
    ·rw [hl]; exact ⟨Nat.pow_pos W32_pos, Nat.pow_pos W32_pos⟩
    ·exact hl.2
theorem lt_W_BI {x k A : Nat} (h : x < W32 ^ k) (hA : 2 * k ≤ A) : x < B16 ^ A := by
 rw [pow_two_k] at h
 exact Nat.lt_of_lt_of_le h (Nat.pow_le_pow_right B16_pos hA)
theorem lt_b1000A {x A : Nat} (h : x < W32 ^ A) (hA : A ≤ 400) : x < B16 ^ 1000 := by
 generalize hB : 1000 = B
 exact lt_W_BI h (by omega)
theorem JW.bd {r : (Bool × Nat × Nat) × (Bool × Nat × Nat) × Bool × Bool × Bool} (h : JW 400 r) {p : Nat} (hp : p ≤ 128) : JBd (jround r p) := by
 rcases h with rfl | ⟨⟨he, hl, hh, _⟩, h1, h2⟩
 ·exact ⟨⟨b16_0, b16_0⟩, b16_0, b16_0⟩
 ·unfold jround
  rw [he]
  refine ⟨?_, ?_⟩
  ·rcases hl with ⟨g1, g2⟩ | ⟨g1, g2⟩
   ·show (if r.2.2.1 then r.1 else gdn r.1 p).2.1 < _ ∧ (if r.2.2.1 then r.1 else gdn r.1 p).2.2 < _
    rw [g1, g2]; exact ⟨b16_0, b16_0⟩
   ·show (if r.2.2.1 then r.1 else gdn r.1 p).2.1 < _ ∧ (if r.2.2.1 then r.1 else gdn r.1 p).2.2 < _
    rw [g1]
    have := gdn_100a (A := 400) h1.1 (by omega) hp
    exact ⟨b16_100k this.1, b16_100k this.2⟩
  ·rcases hh with ⟨g1, g2⟩ | ⟨g1, g2⟩
   ·show (if r.2.2.2.1 then r.2.1 else gup r.2.1 p).2.1 < _ ∧ (if r.2.2.2.1 then r.2.1 else gup r.2.1 p).2.2 < _
    rw [g1, g2]; exact ⟨b16_0, b16_0⟩
   ·show (if r.2.2.2.1 then r.2.1 else gup r.2.1 p).2.1 < _ ∧ (if r.2.2.2.1 then r.2.1 else gup r.2.1 p).2.2 < _
    rw [g1]
    have := gup_100a (A := 400) h2.1 (by omega) hp
    exact ⟨b16_100k this.1, b16_100k this.2⟩
theorem jRounded_w (s1 : Bool) (p1 : Option Addr) (k1 c1 : Nat) (q1 : Option Addr) (l1 d1 : Nat) (sz1 : Bool) (pz1 : Option Addr) (kz1 cz1 : Nat) (qz1 : Option Addr) (lz1 dz1 : Nat) (x1 : Bool) (y1 : Bool) (e1 : Bool) (r : (Bool × Nat × Nat) × (Bool × Nat × Nat) × Bool × Bool × Bool) (pr : Nat) (w : World) (h : JRep w (.agg #[.bool s1, .slice p1 k1 c1, .slice q1 l1 d1, .bool sz1, .slice pz1 kz1 cz1, .slice qz1 lz1 dz1, .bool x1, .bool y1, .bool e1]) r) (hG : JW 400 r) (hp : pr ≤ 1000000) :
  Calls Tryz.prog 116 #[.agg #[.bool s1, .slice p1 k1 c1, .slice q1 l1 d1, .bool sz1, .slice pz1 kz1 cz1, .slice qz1 lz1 dz1, .bool x1, .bool y1, .bool e1], .int .i64 (pr : Int)] w fun e w' => ∃ s3 p3 k3 c3 q3 l3 d3 sz3 pz3 kz3 cz3 qz3 lz3 dz3 x3 y3 e3, e = .returned (.agg #[.bool s3, .slice p3 k3 c3, .slice q3 l3 d3, .bool sz3, .slice pz3 kz3 cz3, .slice qz3 lz3 dz3, .bool x3, .bool y3, .bool e3]) ∧ Hid (JRep w' (.agg #[.bool s3, .slice p3 k3 c3, .slice q3 l3 d3, .bool sz3, .slice pz3 kz3 cz3, .slice qz3 lz3 dz3, .bool x3, .bool y3, .bool e3]) (jround r pr)) ∧ Below w.heap.size w w' := by
 obtain ⟨h1, h2, hi, hj, he⟩ := JRep.parts s1 p1 k1 c1 q1 l1 d1 sz1 pz1 kz1 cz1 qz1 lz1 dz1 x1 y1 e1 h
 rcases hG with rfl | ⟨⟨hn, hl, hh, _⟩, b1, b2⟩
 ·exact jRounded_none s1 p1 k1 c1 q1 l1 d1 sz1 pz1 kz1 cz1 qz1 lz1 dz1 x1 y1 e1 jnone pr w h rfl
 ·have hd : r.2.2.1 = false → ∀ W, QNorm W (.agg #[.bool s1, .slice p1 k1 c1, .slice q1 l1 d1]) r.1 → Calls Tryz.prog 175 #[.agg #[.bool s1, .slice p1 k1 c1, .slice q1 l1 d1], .int .i64 (pr : Int)] W fun e w' => ∃ s4 p4 k4 c4 q4 l4 d4, e = .returned (.agg #[.bool s4, .slice p4 k4 c4, .slice q4 l4 d4]) ∧ Hid (QNorm w' (.agg #[.bool s4, .slice p4 k4 c4, .slice q4 l4 d4]) (gdn r.1 pr)) ∧ Below W.heap.size W w' := by
   intro hx W q
   rcases hl with ⟨hq, _⟩ | ⟨_, hl⟩
   ·rw [hx] at hq; exact absurd hq (by decide)
   ·exact qopen (rGridDown_any (.agg #[.bool s1, .slice p1 k1 c1, .slice q1 l1 d1]) r.1 pr 1000 W q (lt_b1000A b1.1 (by omega)) (lt_b1000A b1.2 (by omega)) (by omega) hp hl.pos)
  have hu : r.2.2.2.1 = false → ∀ W, QNorm W (.agg #[.bool sz1, .slice pz1 kz1 cz1, .slice qz1 lz1 dz1]) r.2.1 → Calls Tryz.prog 176 #[.agg #[.bool sz1, .slice pz1 kz1 cz1, .slice qz1 lz1 dz1], .int .i64 (pr : Int)] W fun e w' => ∃ s4 p4 k4 c4 q4 l4 d4, e = .returned (.agg #[.bool s4, .slice p4 k4 c4, .slice q4 l4 d4]) ∧ Hid (QNorm w' (.agg #[.bool s4, .slice p4 k4 c4, .slice q4 l4 d4]) (gup r.2.1 pr)) ∧ Below W.heap.size W w' := by
   intro hx W q
   rcases hh with ⟨hq, _⟩ | ⟨_, hh⟩
   ·rw [hx] at hq; exact absurd hq (by decide)
   ·exact qopen (rGridUp_any (.agg #[.bool sz1, .slice pz1 kz1 cz1, .slice qz1 lz1 dz1]) r.2.1 pr 1000 W q (lt_b1000A b2.1 (by omega)) (lt_b1000A b2.2 (by omega)) (by omega) hp hh.pos)
  rw [hn] at he
  subst he
  unfold jround
  rw [hn]
  cases hx : r.2.2.1 <;> cases hy : r.2.2.2.1 <;> rw [hx] at hi <;> rw [hy] at hj <;> subst hi hj
  ·exact jRounded_ff s1 p1 k1 c1 q1 l1 d1 sz1 pz1 kz1 cz1 qz1 lz1 dz1 pr r.1 r.2.1 w h1 h2 (hd hx) (hu hy)
  ·exact jRounded_ft s1 p1 k1 c1 q1 l1 d1 sz1 pz1 kz1 cz1 qz1 lz1 dz1 pr r.1 r.2.1 w h1 h2 (hd hx)
  ·exact jRounded_tf s1 p1 k1 c1 q1 l1 d1 sz1 pz1 kz1 cz1 qz1 lz1 dz1 pr r.1 r.2.1 w h1 h2 (hu hy)
  ·exact jRounded_tt s1 p1 k1 c1 q1 l1 d1 sz1 pz1 kz1 cz1 qz1 lz1 dz1 pr r.1 r.2.1 w h1 h2
def jplus (r t : (Bool × Nat × Nat) × (Bool × Nat × Nat) × Bool × Bool × Bool) : (Bool × Nat × Nat) × (Bool × Nat × Nat) × Bool × Bool × Bool := if r.2.2.2.2 || t.2.2.2.2 then jnone else (if r.2.2.1 || t.2.2.1 then (false, 0, 0) else fadd r.1 t.1, if r.2.2.2.1 || t.2.2.2.1 then (false, 0, 0) else fadd r.2.1 t.2.1, r.2.2.1 || t.2.2.1, r.2.2.2.1 || t.2.2.2.1, false)
theorem jPlus_any (s1 : Bool) (p1 : Option Addr) (k1 c1 : Nat) (q1 : Option Addr) (l1 d1 : Nat) (sz1 : Bool) (pz1 : Option Addr) (kz1 cz1 : Nat) (qz1 : Option Addr) (lz1 dz1 : Nat) (x1 : Bool) (y1 : Bool) (e1 : Bool) (s2 : Bool) (p2 : Option Addr) (k2 c2 : Nat) (q2 : Option Addr) (l2 d2 : Nat) (sz2 : Bool) (pz2 : Option Addr) (kz2 cz2 : Nat) (qz2 : Option Addr) (lz2 dz2 : Nat) (x2 : Bool) (y2 : Bool) (e2 : Bool) (r t : (Bool × Nat × Nat) × (Bool × Nat × Nat) × Bool × Bool × Bool) (w : World) (h : JRep w (.agg #[.bool s1, .slice p1 k1 c1, .slice q1 l1 d1, .bool sz1, .slice pz1 kz1 cz1, .slice qz1 lz1 dz1, .bool x1, .bool y1, .bool e1]) r) (h' : JRep w (.agg #[.bool s2, .slice p2 k2 c2, .slice q2 l2 d2, .bool sz2, .slice pz2 kz2 cz2, .slice qz2 lz2 dz2, .bool x2, .bool y2, .bool e2]) t) (hr : JGood r) (ht : JGood t) :
  Calls Tryz.prog 119 #[.agg #[.bool s1, .slice p1 k1 c1, .slice q1 l1 d1, .bool sz1, .slice pz1 kz1 cz1, .slice qz1 lz1 dz1, .bool x1, .bool y1, .bool e1], .agg #[.bool s2, .slice p2 k2 c2, .slice q2 l2 d2, .bool sz2, .slice pz2 kz2 cz2, .slice qz2 lz2 dz2, .bool x2, .bool y2, .bool e2]] w fun e w' => ∃ s3 p3 k3 c3 q3 l3 d3 sz3 pz3 kz3 cz3 qz3 lz3 dz3 x3 y3 e3, e = .returned (.agg #[.bool s3, .slice p3 k3 c3, .slice q3 l3 d3, .bool sz3, .slice pz3 kz3 cz3, .slice qz3 lz3 dz3, .bool x3, .bool y3, .bool e3]) ∧ Hid (JRep w' (.agg #[.bool s3, .slice p3 k3 c3, .slice q3 l3 d3, .bool sz3, .slice pz3 kz3 cz3, .slice qz3 lz3 dz3, .bool x3, .bool y3, .bool e3]) (jplus r t)) ∧ Below w.heap.size w w' := by
 obtain ⟨h1, h2, hi, hj, he⟩ := JRep.parts s1 p1 k1 c1 q1 l1 d1 sz1 pz1 kz1 cz1 qz1 lz1 dz1 x1 y1 e1 h
 obtain ⟨g1, g2, hi', hj', he'⟩ := JRep.parts s2 p2 k2 c2 q2 l2 d2 sz2 pz2 kz2 cz2 qz2 lz2 dz2 x2 y2 e2 h'
 unfold jplus
 cases hre : r.2.2.2.2
 ·cases hte : t.2.2.2.2
  ·rw [hre] at he
   rw [hte] at he'
   subst he he'
   have fr1 := hr.fr hre
   have fr2 := ht.fr hte
   have w1 := hr.wide
   have w2 := ht.wide
   rcases w1 with w1 | ⟨_, b1, b2⟩
   ·rw [w1] at hre; exact absurd hre (by decide)
   rcases w2 with w2 | ⟨_, b3, b4⟩
   ·rw [w2] at hte; exact absurd hte (by decide)
   have hl : (r.2.2.1 || t.2.2.1) = false → ∀ W, Below w.heap.size w W → Calls Tryz.prog 167 #[.agg #[.bool s1, .slice p1 k1 c1, .slice q1 l1 d1], .agg #[.bool s2, .slice p2 k2 c2, .slice q2 l2 d2]] W fun e w' => ∃ s4 p4 k4 c4 q4 l4 d4, e = .returned (.agg #[.bool s4, .slice p4 k4 c4, .slice q4 l4 d4]) ∧ Hid (QNorm w' (.agg #[.bool s4, .slice p4 k4 c4, .slice q4 l4 d4]) (fadd r.1 t.1)) ∧ Below W.heap.size W w' := by
    intro hx W hW
    rw [Bool.or_eq_false_iff] at hx
    rcases fr1.2.1 with ⟨hq, _⟩ | ⟨_, v1⟩
    ·rw [hx.1] at hq; exact absurd hq (by decide)
    rcases fr2.2.1 with ⟨hq, _⟩ | ⟨_, v2⟩
    ·rw [hx.2] at hq; exact absurd hq (by decide)
    exact qopen (rSum_any (.agg #[.bool s1, .slice p1 k1 c1, .slice q1 l1 d1]) (.agg #[.bool s2, .slice p2 k2 c2, .slice q2 l2 d2]) r.1.1 r.1.2.1 r.1.2.2 t.1.1 t.1.2.1 t.1.2.2 1000 W (h1.below hW) (g1.below hW) (lt_b1000A b1.1 (by omega)) (lt_b1000A b1.2 (by omega)) (lt_b1000A b3.1 (by omega)) (lt_b1000A b3.2 (by omega)) (by omega) v1.pos v2.pos)
   have hh : (r.2.2.2.1 || t.2.2.2.1) = false → ∀ W, Below w.heap.size w W → Calls Tryz.prog 167 #[.agg #[.bool sz1, .slice pz1 kz1 cz1, .slice qz1 lz1 dz1], .agg #[.bool sz2, .slice pz2 kz2 cz2, .slice qz2 lz2 dz2]] W fun e w' => ∃ s4 p4 k4 c4 q4 l4 d4, e = .returned (.agg #[.bool s4, .slice p4 k4 c4, .slice q4 l4 d4]) ∧ Hid (QNorm w' (.agg #[.bool s4, .slice p4 k4 c4, .slice q4 l4 d4]) (fadd r.2.1 t.2.1)) ∧ Below W.heap.size W w' := by
    intro hx W hW
    rw [Bool.or_eq_false_iff] at hx
    rcases fr1.2.2.1 with ⟨hq, _⟩ | ⟨_, v1⟩
    ·rw [hx.1] at hq; exact absurd hq (by decide)
    rcases fr2.2.2.1 with ⟨hq, _⟩ | ⟨_, v2⟩
    ·rw [hx.2] at hq; exact absurd hq (by decide)
    exact qopen (rSum_any (.agg #[.bool sz1, .slice pz1 kz1 cz1, .slice qz1 lz1 dz1]) (.agg #[.bool sz2, .slice pz2 kz2 cz2, .slice qz2 lz2 dz2]) r.2.1.1 r.2.1.2.1 r.2.1.2.2 t.2.1.1 t.2.1.2.1 t.2.1.2.2 1000 W (h2.below hW) (g2.below hW) (lt_b1000A b2.1 (by omega)) (lt_b1000A b2.2 (by omega)) (lt_b1000A b4.1 (by omega)) (lt_b1000A b4.2 (by omega)) (by omega) v1.pos v2.pos)
   show Calls _ _ _ _ fun e w' => ∃ s3 p3 k3 c3 q3 l3 d3 sz3 pz3 kz3 cz3 qz3 lz3 dz3 x3 y3 e3, e = .returned (.agg #[.bool s3, .slice p3 k3 c3, .slice q3 l3 d3, .bool sz3, .slice pz3 kz3 cz3, .slice qz3 lz3 dz3, .bool x3, .bool y3, .bool e3]) ∧ Hid (JRep w' (.agg #[.bool s3, .slice p3 k3 c3, .slice q3 l3 d3, .bool sz3, .slice pz3 kz3 cz3, .slice qz3 lz3 dz3, .bool x3, .bool y3, .bool e3]) (if r.2.2.1 || t.2.2.1 then (false, 0, 0) else fadd r.1 t.1, if r.2.2.2.1 || t.2.2.2.1 then (false, 0, 0) else fadd r.2.1 t.2.1, r.2.2.1 || t.2.2.1, r.2.2.2.1 || t.2.2.2.1, false)) ∧ Below w.heap.size w w'
   have hX : (x1 || x2) = (r.2.2.1 || t.2.2.1) := by rw [hi, hi']
   have hY : (y1 || y2) = (r.2.2.2.1 || t.2.2.2.1) := by rw [hj, hj']
   cases hx : (r.2.2.1 || t.2.2.1) <;> cases hy : (r.2.2.2.1 || t.2.2.2.1) <;> rw [hx] at hX <;> rw [hy] at hY
   ·exact jPlus_ff s1 p1 k1 c1 q1 l1 d1 sz1 pz1 kz1 cz1 qz1 lz1 dz1 x1 y1 s2 p2 k2 c2 q2 l2 d2 sz2 pz2 kz2 cz2 qz2 lz2 dz2 x2 y2 r t w hX hY (hl hx) (hh hy)
   ·exact jPlus_ft s1 p1 k1 c1 q1 l1 d1 sz1 pz1 kz1 cz1 qz1 lz1 dz1 x1 y1 s2 p2 k2 c2 q2 l2 d2 sz2 pz2 kz2 cz2 qz2 lz2 dz2 x2 y2 r t w hX hY (hl hx)
   ·exact jPlus_tf s1 p1 k1 c1 q1 l1 d1 sz1 pz1 kz1 cz1 qz1 lz1 dz1 x1 y1 s2 p2 k2 c2 q2 l2 d2 sz2 pz2 kz2 cz2 qz2 lz2 dz2 x2 y2 r t w hX hY (hh hy)
   ·exact jPlus_tt s1 p1 k1 c1 q1 l1 d1 sz1 pz1 kz1 cz1 qz1 lz1 dz1 x1 y1 s2 p2 k2 c2 q2 l2 d2 sz2 pz2 kz2 cz2 qz2 lz2 dz2 x2 y2 w hX hY
  ·rw [hre] at he
   rw [hte] at he'
   subst he he'
   exact jPlus_e2 s1 p1 k1 c1 q1 l1 d1 sz1 pz1 kz1 cz1 qz1 lz1 dz1 x1 y1 s2 p2 k2 c2 q2 l2 d2 sz2 pz2 kz2 cz2 qz2 lz2 dz2 x2 y2 w
 ·rw [hre] at he
  subst he
  exact jPlus_e1 s1 p1 k1 c1 q1 l1 d1 sz1 pz1 kz1 cz1 qz1 lz1 dz1 x1 y1 s2 p2 k2 c2 q2 l2 d2 sz2 pz2 kz2 cz2 qz2 lz2 dz2 x2 y2 e2 w
theorem self_FQ {t : Bool × Nat × Nat} (h : 0 < t.2.2) : FQ t (sv t.1 t.2.1) (t.2.2 : Int) := ⟨by omega, h, rfl⟩
theorem fadd_mono {a b a' b' : Bool × Nat × Nat} (ha : IsFr a) (hb : IsFr b) (ha' : IsFr a') (hb' : IsFr b') (h : fcmp a a' ≤ 0) (h' : fcmp b b' ≤ 0) : fcmp (fadd a b) (fadd a' b') ≤ 0 := by
 have p1 : (0 : Int) < (a.2.2 : Int) := by have := ha.pos; omega
 have p2 : (0 : Int) < (b.2.2 : Int) := by have := hb.pos; omega
 have p3 : (0 : Int) < (a'.2.2 : Int) := by have := ha'.pos; omega
 have p4 : (0 : Int) < (b'.2.2 : Int) := by have := hb'.pos; omega
 rw [fcmp_Q (fadd_FQ (self_FQ ha.pos) (self_FQ hb.pos)) (fadd_FQ (self_FQ ha'.pos) (self_FQ hb'.pos)) (Int.mul_pos p1 p2) (Int.mul_pos p3 p4)]
 rw [fcmp_nonpos] at h h'
 generalize (a.2.2 : Int) = da at *
 generalize (b.2.2 : Int) = db at *
 generalize (a'.2.2 : Int) = ea at *
 generalize (b'.2.2 : Int) = eb at *
 generalize sv a.1 a.2.1 = sa at *
 generalize sv b.1 b.2.1 = sb at *
 generalize sv a'.1 a'.2.1 = ta at *
 generalize sv b'.1 b'.2.1 = tb at *
 have k1 : sa * ea * (db * eb) ≤ ta * da * (db * eb) := Int.mul_le_mul_of_nonneg_right h (Int.le_of_lt (Int.mul_pos p2 p4))
 have k2 : sb * eb * (da * ea) ≤ tb * db * (da * ea) := Int.mul_le_mul_of_nonneg_right h' (Int.le_of_lt (Int.mul_pos p1 p3))
 have e1 : (sa * db + sb * da) * (ea * eb) = sa * ea * (db * eb) + sb * eb * (da * ea) := by
  simp only [Int.mul_add, Int.mul_comm, Int.mul_left_comm]
 have e2 : (ta * eb + tb * ea) * (da * db) = ta * da * (db * eb) + tb * db * (da * ea) := by
  simp only [Int.mul_add, Int.mul_comm, Int.mul_left_comm]
 rw [e1, e2]
 unfold cmpI
 split
 ·decide
 ·split
  ·omega
  ·decide
theorem JW.plus {A : Nat} (hA : 130 ≤ A) {r t : (Bool × Nat × Nat) × (Bool × Nat × Nat) × Bool × Bool × Bool} (hr : JGood r) (ht : JGood t) : JW A (jplus r t) := by
 unfold jplus
 cases hre : r.2.2.2.2
 ·cases hte : t.2.2.2.2
  ·have fr1 := hr.fr hre
   have fr2 := ht.fr hte
   rcases hr.wide with w1 | ⟨_, b1, b2⟩
   ·rw [w1] at hre; exact absurd hre (by decide)
   rcases ht.wide with w2 | ⟨_, b3, b4⟩
   ·rw [w2] at hte; exact absurd hte (by decide)
   have q1 : (r.2.2.1 || t.2.2.1) = false → IsFr r.1 ∧ IsFr t.1 := by
    intro hx
    rw [Bool.or_eq_false_iff] at hx
    rcases fr1.2.1 with ⟨hq, _⟩ | ⟨_, q1⟩
    ·rw [hx.1] at hq; exact absurd hq (by decide)
    rcases fr2.2.1 with ⟨hq, _⟩ | ⟨_, q2⟩
    ·rw [hx.2] at hq; exact absurd hq (by decide)
    exact ⟨q1, q2⟩
   have q2 : (r.2.2.2.1 || t.2.2.2.1) = false → IsFr r.2.1 ∧ IsFr t.2.1 := by
    intro hx
    rw [Bool.or_eq_false_iff] at hx
    rcases fr1.2.2.1 with ⟨hq, _⟩ | ⟨_, q1⟩
    ·rw [hx.1] at hq; exact absurd hq (by decide)
    rcases fr2.2.2.1 with ⟨hq, _⟩ | ⟨_, q2⟩
    ·rw [hx.2] at hq; exact absurd hq (by decide)
    exact ⟨q1, q2⟩
   have m1 := faddI_b b1.1 b1.2 b3.1 b3.2
   have m2 := faddI_b b2.1 b2.2 b4.1 b4.2
   refine .inr ⟨⟨rfl, ?_, ?_, ?_⟩, ?_, ?_⟩
   ·cases hx : (r.2.2.1 || t.2.2.1)
    ·exact .inr ⟨rfl, IsFr.add (q1 hx).1.pos (q1 hx).2.pos⟩
    ·exact .inl ⟨rfl, rfl⟩
   ·cases hx : (r.2.2.2.1 || t.2.2.2.1)
    ·exact .inr ⟨rfl, IsFr.add (q2 hx).1.pos (q2 hx).2.pos⟩
    ·exact .inl ⟨rfl, rfl⟩
   ·intro hx hy
    have hx' : (r.2.2.1 || t.2.2.1) = false := hx
    have hy' : (r.2.2.2.1 || t.2.2.2.1) = false := hy
    show fcmp (if r.2.2.1 || t.2.2.1 then (false, 0, 0) else fadd r.1 t.1) (if r.2.2.2.1 || t.2.2.2.1 then (false, 0, 0) else fadd r.2.1 t.2.1) ≤ 0
    rw [hx', hy']
    have hx2 := hx'
    have hy2 := hy'
    rw [Bool.or_eq_false_iff] at hx2 hy2
    exact fadd_mono (q1 hx').1 (q1 hx').2 (q2 hy').1 (q2 hy').2 (fr1.2.2.2 hx2.1 hy2.1) (fr2.2.2.2 hx2.2 hy2.2)
   ·show (if r.2.2.1 || t.2.2.1 then (false, 0, 0) else fadd r.1 t.1).2.1 < _ ∧ (if r.2.2.1 || t.2.2.1 then (false, 0, 0) else fadd r.1 t.1).2.2 < _
    split
    ·exact ⟨Nat.pow_pos W32_pos, Nat.pow_pos W32_pos⟩
    ·exact ⟨lt_pow m1.1 (by omega), lt_pow m1.2 (by omega)⟩
   ·show (if r.2.2.2.1 || t.2.2.2.1 then (false, 0, 0) else fadd r.2.1 t.2.1).2.1 < _ ∧ (if r.2.2.2.1 || t.2.2.2.1 then (false, 0, 0) else fadd r.2.1 t.2.1).2.2 < _
    split
    ·exact ⟨Nat.pow_pos W32_pos, Nat.pow_pos W32_pos⟩
    ·exact ⟨lt_pow m2.1 (by omega), lt_pow m2.2 (by omega)⟩
  ·exact .inl rfl
 ·exact .inl rfl
def Sim (S : (Int × Bool × Nat × Nat) × (Int × Bool × Nat × Nat) × Bool) (J : (Bool × Nat × Nat) × (Bool × Nat × Nat) × Bool × Bool × Bool) : Prop := ∃ A B x y, S = (if x then (-1, false, 0, 0) else (0, A), if y then (1, false, 0, 0) else (0, B), false) ∧ J = (if x then (false, 0, 0) else A, if y then (false, 0, 0) else B, x, y, false)
theorem Sim.of {a b : Bool × Nat × Nat} {x y : Bool} (he : (srd (a, b, x, y)).2.2 = false) : Sim (srd (a, b, x, y)) (jof (a, b, x, y)) := by
 refine ⟨fr a, fr b, x, y, ?_, jof_in he⟩
 have e : srd (a, b, x, y) = ((srd (a, b, x, y)).1, (srd (a, b, x, y)).2.1, (srd (a, b, x, y)).2.2) := rfl
 rw [e, he]
 rfl
theorem Sim.plus {S T : (Int × Bool × Nat × Nat) × (Int × Bool × Nat × Nat) × Bool} {J K : (Bool × Nat × Nat) × (Bool × Nat × Nat) × Bool × Bool × Bool} (h : Sim S J) (h' : Sim T K) : Sim (splus S T) (jplus J K) := by
 obtain ⟨A, B, x, y, rfl, rfl⟩ := h
 obtain ⟨A', B', x', y', rfl, rfl⟩ := h'
 refine ⟨fadd A A', fadd B B', x || x', y || y', ?_, ?_⟩ <;> cases x <;> cases y <;> cases x' <;> cases y' <;> rfl
theorem Sim.neg {S : (Int × Bool × Nat × Nat) × (Int × Bool × Nat × Nat) × Bool} {J : (Bool × Nat × Nat) × (Bool × Nat × Nat) × Bool × Bool × Bool} (h : Sim S J) : Sim (sneg S) (jminus J) := by
 obtain ⟨A, B, x, y, rfl, rfl⟩ := h
 refine ⟨fneg B, fneg A, y, x, ?_, ?_⟩ <;> cases x <;> cases y <;> rfl
theorem Sim.rnd {S : (Int × Bool × Nat × Nat) × (Int × Bool × Nat × Nat) × Bool} {J : (Bool × Nat × Nat) × (Bool × Nat × Nat) × Bool × Bool × Bool} (h : Sim S J) (p : Nat) : jbig (jround J p) = sbig (sround S p) ∧ japi (jround J p) = giv (sround S p) := by
 obtain ⟨A, B, x, y, rfl, rfl⟩ := h
 exact rnd_ends
end Go.Proofs.YtpdpabpdejmdbaaGreatDoor
