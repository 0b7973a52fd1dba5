/- Abs of both sides. -/
import Derived.Test.YtpdpabpdejmdbaaGreatDoorSizJ
import Derived.Test.YtpdpabpdejmdbaaGreatDoorSgnJ
import Derived.Test.YtpdpabpdejmdbaaGreatDoorAbsI
namespace Go.Proofs.YtpdpabpdejmdbaaGreatDoor
open Go.RowKit Dg

theorem enter_sabs (args : Array Value) (w : World) : (callFunc 80 args).run Tryz.prog w = .ok (.enter 80 args) w := call_enter Tryz.func80 (by kernel_rfl) rfl args w
theorem sabs_in {x : (Int × Bool × Nat × Nat) × (Int × Bool × Nat × Nat) × Bool} (h : x.2.2 = false) : (sabs x).2.2 = false := by
  unfold sabs
  split
  · exact h
  · split <;> rfl
theorem EOk.max {A : Nat} {x y : Int × Bool × Nat × Nat} (hx : EOk A x) (hy : EOk A y) : EOk A (emax x y) := by unfold emax; split <;> assumption
theorem ebig_max {x y : Int × Bool × Nat × Nat} (hx : ebig x = false) (hy : ebig y = false) : ebig (emax x y) = false := by unfold emax; split <;> assumption
theorem isFr_zero : IsFr (false, 0, 1) := ⟨false, 0, 1, Nat.one_pos, by decide⟩
theorem EOk.zero {A : Nat} (hA : 0 < A) : EOk A (0, false, 0, 1) := ⟨fun _ => isFr_zero, fun h => absurd rfl h, Nat.pow_pos W32_pos, Nat.one_lt_pow (by omega) (by decide)⟩
theorem ebig_zero : ebig (0, false, 0, 1) = false := by decide +kernel
theorem sabs_fit {a b : Bool × Nat × Nat} {x y : Bool} (h1 : large a.2.1 a.2.2 = false) (h2 : large b.2.1 b.2.2 = false) :
    (EOk 100000 (sabs (srd (a, b, x, y))).1 ∧ EOk 100000 (sabs (srd (a, b, x, y))).2.1) ∧ ebig (sabs (srd (a, b, x, y))).1 = false ∧ ebig (sabs (srd (a, b, x, y))).2.1 = false := by
  have e1 := (rdE_ok (inf := x) (g := -1) (.inr rfl) h1).le (show 64 ≤ 100000 by omega)
  have e2 := (rdE_ok (inf := y) (g := 1) (.inl rfl) h2).le (show 64 ≤ 100000 by omega)
  have b1 := ebig_rd (inf := x) (g := -1) h1
  have b2 := ebig_rd (inf := y) (g := 1) h2
  unfold sabs
  split
  · exact ⟨⟨e1, e2⟩, b1, b2⟩
  · split
    · exact ⟨⟨e2.neg, e1.neg⟩, ebig_neg b2, ebig_neg b1⟩
    · exact ⟨⟨EOk.zero (by omega), e1.neg.max e2⟩, ebig_zero, ebig_max (ebig_neg b1) b2⟩

/-- The set of the absolute values, of the reference. -/
def jsize (r : (Bool × Nat × Nat) × (Bool × Nat × Nat) × Bool × Bool × Bool) : (Bool × Nat × Nat) × (Bool × Nat × Nat) × Bool × Bool × Bool := if jsg r = -2 ∨ jsg r = -1 then jminus r else if jsg r = 3 then jmix r else r
theorem sgo_cases (x y : Bool) (a b : Int) : sgo x y a b = 0 ∨ sgo x y a b = 2 ∨ sgo x y a b = 1 ∨ sgo x y a b = -2 ∨ sgo x y a b = -1 ∨ sgo x y a b = 3 := by
  unfold sgo
  repeat' split
  all_goals simp
set_option maxHeartbeats 4000000 in
set_option maxRecDepth 100000 in
theorem jSignOf_none (s1 : Bool) (p1 : Option Addr) (k1 c1 : Nat) (q1 : Option Addr) (l1 d1 : Nat) (sz1 : Bool) (pz1 : Option Addr) (kz1 cz1 : Nat) (qz1 : Option Addr) (lz1 dz1 : Nat) (x1 y1 : Bool) (w : World) :
    Calls Tryz.prog 89 #[.agg #[.bool s1, .slice p1 k1 c1, .slice q1 l1 d1, .bool sz1, .slice pz1 kz1 cz1, .slice qz1 lz1 dz1, .bool x1, .bool y1, .bool true]] w fun e w' => e = .returned (.int .i64 (jsg jnone)) ∧ Below w.heap.size w w' := by
  rw [show jsg jnone = 4 from by decide]
  go_enter Tryz.func89, Tryz.ntmps89
  go_wp2_with fail
  go_ret
  exact ⟨rfl, (Below.refl _ _).alloc (Nat.le_refl _) _⟩
theorem jSignOf_any (s1 : Bool) (p1 : Option Addr) (k1 c1 : Nat) (q1 : Option Addr) (l1 d1 : Nat) (sz1 : Bool) (pz1 : Option Addr) (kz1 cz1 : Nat) (qz1 : Option Addr) (lz1 dz1 : Nat) (x1 : Bool) (y1 : Bool) (e1 : Bool) (r : (Bool × Nat × Nat) × (Bool × Nat × Nat) × Bool × Bool × Bool) (w : World) (h : JRep w (.agg #[.bool s1, .slice p1 k1 c1, .slice q1 l1 d1, .bool sz1, .slice pz1 kz1 cz1, .slice qz1 lz1 dz1, .bool x1, .bool y1, .bool e1]) r) (hG : JGood r) :
    Calls Tryz.prog 89 #[.agg #[.bool s1, .slice p1 k1 c1, .slice q1 l1 d1, .bool sz1, .slice pz1 kz1 cz1, .slice qz1 lz1 dz1, .bool x1, .bool y1, .bool e1]] w fun e w' => e = .returned (.int .i64 (jsg r)) ∧ Below w.heap.size w w' := by
  obtain ⟨h1, h2, hi, hj, he⟩ := JRep.parts s1 p1 k1 c1 q1 l1 d1 sz1 pz1 kz1 cz1 qz1 lz1 dz1 x1 y1 e1 h
  rcases hG with rfl | ⟨hn, hl, hh, _⟩
  · rw [show e1 = true from he]
    exact jSignOf_none _ _ _ _ _ _ _ _ _ _ _ _ _ _ _ _ w
  · rw [hn] at he
    subst he
    unfold jsg
    rw [hn]
    have z1 : r.1.2.1 = 0 → r.1.1 = false := by
      rcases hl with ⟨_, hl⟩ | ⟨_, hl⟩
      · rw [hl]; intro _; rfl
      · exact hl.1.zs
    have z2 : r.2.1.2.1 = 0 → r.2.1.1 = false := by
      rcases hh with ⟨_, hl⟩ | ⟨_, hl⟩
      · rw [hl]; intro _; rfl
      · exact hl.1.zs
    refine jSignOf_some (sgn r.1.1 r.1.2.1) (sgn r.2.1.1 r.2.1.2.1) _ s1 p1 k1 c1 q1 l1 d1 sz1 pz1 kz1 cz1 qz1 lz1 dz1 x1 y1 w (by rw [hi, hj]; rfl) (fun W hW => Sgn_any (.agg #[.bool s1, .slice p1 k1 c1, .slice q1 l1 d1]) r.1 W (h1.below hW) z1) (fun W hW => Sgn_any (.agg #[.bool sz1, .slice pz1 kz1 cz1, .slice qz1 lz1 dz1]) r.2.1 W (h2.below hW) z2)
theorem jSize_any (s1 : Bool) (p1 : Option Addr) (k1 c1 : Nat) (q1 : Option Addr) (l1 d1 : Nat) (sz1 : Bool) (pz1 : Option Addr) (kz1 cz1 : Nat) (qz1 : Option Addr) (lz1 dz1 : Nat) (x1 : Bool) (y1 : Bool) (e1 : Bool) (r : (Bool × Nat × Nat) × (Bool × Nat × Nat) × Bool × Bool × Bool) (w : World) (h : JRep w (.agg #[.bool s1, .slice p1 k1 c1, .slice q1 l1 d1, .bool sz1, .slice pz1 kz1 cz1, .slice qz1 lz1 dz1, .bool x1, .bool y1, .bool e1]) r) (hG : JGood r) :
    Calls Tryz.prog 81 #[.agg #[.bool s1, .slice p1 k1 c1, .slice q1 l1 d1, .bool sz1, .slice pz1 kz1 cz1, .slice qz1 lz1 dz1, .bool x1, .bool y1, .bool e1]] w fun e w' => ∃ s3 p3 k3 c3 q3 l3 d3 sz3 pz3 kz3 cz3 qz3 lz3 dz3 x3 y3 e3, e = .returned (.agg #[.bool s3, .slice p3 k3 c3, .slice q3 l3 d3, .bool sz3, .slice pz3 kz3 cz3, .slice qz3 lz3 dz3, .bool x3, .bool y3, .bool e3]) ∧ Hid (JRep w' (.agg #[.bool s3, .slice p3 k3 c3, .slice q3 l3 d3, .bool sz3, .slice pz3 kz3 cz3, .slice qz3 lz3 dz3, .bool x3, .bool y3, .bool e3]) (jsize r)) ∧ Below w.heap.size w w' := by
  have hg := fun (W : World) (hW : Below w.heap.size w W) => jSignOf_any s1 p1 k1 c1 q1 l1 d1 sz1 pz1 kz1 cz1 qz1 lz1 dz1 x1 y1 e1 r W (h.below hW) hG
  unfold jsize
  by_cases hm : jsg r = -2 ∨ jsg r = -1
  · rw [if_pos hm]
    exact jSize_neg s1 p1 k1 c1 q1 l1 d1 sz1 pz1 kz1 cz1 qz1 lz1 dz1 x1 y1 e1 (jsg r) r w h hm hg
  · rw [if_neg hm]
    by_cases h3 : jsg r = 3
    · rw [if_pos h3]
      rw [h3] at hg
      obtain ⟨h1, h2, hi, hj, he⟩ := JRep.parts s1 p1 k1 c1 q1 l1 d1 sz1 pz1 kz1 cz1 qz1 lz1 dz1 x1 y1 e1 h
      unfold jmix
      cases hxy : (r.2.2.1 || r.2.2.2.1)
      · have hx : r.2.2.1 = false ∧ r.2.2.2.1 = false := by simpa using hxy
        rcases hG with rfl | ⟨_, hl, hh, _⟩
        · exact absurd h3 (by decide)
        · rcases hl with ⟨hq, _⟩ | ⟨_, hl⟩
          · rw [hx.1] at hq; exact absurd hq (by decide)
          · rcases hh with ⟨hq, _⟩ | ⟨_, hh⟩
            · rw [hx.2] at hq; exact absurd hq (by decide)
            · rw [hx.1] at hi
              rw [hx.2] at hj
              subst hi hj
              exact jSize_fin s1 p1 k1 c1 q1 l1 d1 sz1 pz1 kz1 cz1 qz1 lz1 dz1 e1 r.1 r.2.1 w h1 h2 hl.ok hh.ok hg
      · exact jSize_inf s1 p1 k1 c1 q1 l1 d1 sz1 pz1 kz1 cz1 qz1 lz1 dz1 x1 y1 e1 w (by rw [hi, hj]; exact hxy) hg
    · rw [if_neg h3]
      refine jSize_id s1 p1 k1 c1 q1 l1 d1 sz1 pz1 kz1 cz1 qz1 lz1 dz1 x1 y1 e1 (jsg r) r w h ?_ hg
      unfold jsg at hm h3 ⊢
      cases he : r.2.2.2.2
      · rw [he] at hm h3
        have := sgo_cases r.2.2.1 r.2.2.2.1 (sgn r.1.1 r.1.2.1) (sgn r.2.1.1 r.2.1.2.1)
        simp at hm h3 ⊢
        omega
      · exact .inl rfl
theorem jSize_of {a b : Bool × Nat × Nat} {x y : Bool} (s1 : Bool) (p1 : Option Addr) (k1 c1 : Nat) (q1 : Option Addr) (l1 d1 : Nat) (sz1 : Bool) (pz1 : Option Addr) (kz1 cz1 : Nat) (qz1 : Option Addr) (lz1 dz1 : Nat) (x1 : Bool) (y1 : Bool) (e1 : Bool) (h1 : large a.2.1 a.2.2 = false) (h2 : large b.2.1 b.2.2 = false) (w : World) (h : JRep w (.agg #[.bool s1, .slice p1 k1 c1, .slice q1 l1 d1, .bool sz1, .slice pz1 kz1 cz1, .slice qz1 lz1 dz1, .bool x1, .bool y1, .bool e1]) (jof (a, b, x, y))) :
    Calls Tryz.prog 81 #[.agg #[.bool s1, .slice p1 k1 c1, .slice q1 l1 d1, .bool sz1, .slice pz1 kz1 cz1, .slice qz1 lz1 dz1, .bool x1, .bool y1, .bool e1]] w fun e w' => ∃ s3 p3 k3 c3 q3 l3 d3 sz3 pz3 kz3 cz3 qz3 lz3 dz3 x3 y3 e3, e = .returned (.agg #[.bool s3, .slice p3 k3 c3, .slice q3 l3 d3, .bool sz3, .slice pz3 kz3 cz3, .slice qz3 lz3 dz3, .bool x3, .bool y3, .bool e3]) ∧ Hid (JRep w' (.agg #[.bool s3, .slice p3 k3 c3, .slice q3 l3 d3, .bool sz3, .slice pz3 kz3 cz3, .slice qz3 lz3 dz3, .bool x3, .bool y3, .bool e3]) (jsize (jof (a, b, x, y)))) ∧ Below w.heap.size w w' := jSize_any s1 p1 k1 c1 q1 l1 d1 sz1 pz1 kz1 cz1 qz1 lz1 dz1 x1 y1 e1 _ w h (JGood.of h1 h2)
theorem QFit.zero : QFit (false, 0, 1) := ⟨isFr_zero, Nat.pow_pos W32_pos, Nat.one_lt_pow (by omega) (by decide)⟩
theorem QFit.max {s t : Bool × Nat × Nat} (hs : QFit s) (ht : QFit t) : QFit (qmax s t) := by unfold qmax; split <;> assumption
theorem sv_pos {t : Bool × Nat × Nat} (h : 0 < sgn t.1 t.2.1) : 0 < sv t.1 t.2.1 := by
  unfold sgn at h
  unfold sv
  split at h
  · exact absurd h (by decide)
  case isFalse hs =>
    rw [if_neg hs]
    split at h
    · exact absurd h (by decide)
    · omega
theorem sv_nonneg {t : Bool × Nat × Nat} (h : ¬ 0 ≤ sgn t.1 t.2.1) : 0 ≤ sv (fneg t).1 (fneg t).2.1 := by
  rw [sv_fneg]
  unfold sgn at h
  unfold sv
  split at h
  case isTrue hs => rw [if_pos hs]; omega
  · split at h <;> exact absurd (by decide) h
theorem fcmp_zero_le {t : Bool × Nat × Nat} (h : 0 ≤ sv t.1 t.2.1) : fcmp (false, 0, 1) t ≤ 0 := by
  rw [fcmp_nonpos]
  show (0 : Int) * _ ≤ sv t.1 t.2.1 * ((1 : Nat) : Int)
  simp
  exact h
/-- The reference's set of absolute values, as a result. -/
theorem jsize_good {r : (Bool × Nat × Nat) × (Bool × Nat × Nat) × Bool × Bool × Bool} (h : JGood r) : ∃ r', JGood r' ∧ japi (jsize r) = japi r' := by
  unfold jsize
  split
  · exact ⟨_, h.neg, rfl⟩
  · split
    case isTrue h3 =>
      rcases h with rfl | ⟨he, hl, hh, _⟩
      · exact absurd h3 (by decide)
      · unfold jmix
        cases hxy : (r.2.2.1 || r.2.2.2.1)
        · have hx : r.2.2.1 = false ∧ r.2.2.2.1 = false := by simpa using hxy
          rcases hl with ⟨hq, _⟩ | ⟨_, hl⟩
          · rw [hx.1] at hq; exact absurd hq (by decide)
          · rcases hh with ⟨hq, _⟩ | ⟨_, hh⟩
            · rw [hx.2] at hq; exact absurd hq (by decide)
            · refine ⟨((false, 0, 1), qmax (fneg r.1) r.2.1, false, false, false), .inr ⟨rfl, .inr ⟨rfl, QFit.zero⟩, .inr ⟨rfl, hl.neg.max hh⟩, fun _ _ => ?_⟩, rfl⟩
              unfold jsg at h3
              rw [he] at h3
              unfold sgo at h3
              rw [hx.1, hx.2] at h3
              have hq : ¬ 0 ≤ sgn r.1.1 r.1.2.1 ∧ ¬ sgn r.2.1.1 r.2.1.2.1 ≤ 0 := by
                by_cases ha : 0 ≤ sgn r.1.1 r.1.2.1 <;> by_cases hb : sgn r.2.1.1 r.2.1.2.1 ≤ 0 <;> simp [ha, hb] at h3 ⊢
                all_goals (try (split at h3 <;> omega))
              show fcmp (false, 0, 1) (qmax (fneg r.1) r.2.1) ≤ 0
              refine fcmp_zero_le ?_
              unfold qmax
              split
              · have := sv_pos (t := r.2.1) (by omega); omega
              · exact sv_nonneg hq.1
        · exact ⟨((false, 0, 1), (false, 0, 0), false, true, false), .inr ⟨rfl, .inr ⟨rfl, QFit.zero⟩, .inl ⟨rfl, rfl⟩, fun _ h => absurd h (by decide)⟩, rfl⟩
    · exact ⟨r, h, rfl⟩
theorem jsize_bd {r : (Bool × Nat × Nat) × (Bool × Nat × Nat) × Bool × Bool × Bool} (h : JGood r) : JBd (jsize r) := by
  unfold jsize
  split
  · exact h.neg.bd
  · split
    case isTrue h3 =>
      rcases h with rfl | ⟨he, hl, hh, _⟩
      · exact absurd h3 (by decide)
      · unfold jmix
        cases hxy : (r.2.2.1 || r.2.2.2.1)
        · have hx : r.2.2.1 = false ∧ r.2.2.2.1 = false := by simpa using hxy
          rcases hl with ⟨hq, _⟩ | ⟨_, hl⟩
          · rw [hx.1] at hq; exact absurd hq (by decide)
          · rcases hh with ⟨hq, _⟩ | ⟨_, hh⟩
            · rw [hx.2] at hq; exact absurd hq (by decide)
            · have := hl.neg.max hh
              exact ⟨⟨b16_0, b16_0⟩, b16_64 this.2.1, b16_64 this.2.2⟩
        · exact ⟨⟨b16_0, b16_0⟩, b16_0, b16_0⟩
    · exact h.bd

theorem iAbs_ret {W : World} {B : Nat} {a0 a1 a2 a3 a4 a5 a6 a7 ev : Value} {tm : Array Value} {R : Ending → World → Prop} (h2 : tm[2]?.getD undef = .pointer (some ⟨B, 0, none⟩)) (h3 : tm[3]?.getD undef = ev) (hV : Box W B #[a0, a1, a2, a3, a4, a5, a6, a7]) (hR : R (.returned (.tuple #[.agg #[a0, a1, a2, a3, a4, a5, a6, a7], ev])) W) :
    bodyPost Tryz.prog Tryz.f28 R .ret { tmps := tm, defers := [] } W := by
  obtain ⟨g0, g1, g2, g3, g4, g5, g6, g7, _⟩ := hV.cells8
  exact bodyPost_ret (v := .tuple #[.agg #[a0, a1, a2, a3, a4, a5, a6, a7], ev]) (by simp [results, Tryz.results28, go_sem, h2, h3, g0, g1, g2, g3, g4, g5, g6, g7]) rfl hR
set_option maxHeartbeats 2000000 in
set_option maxRecDepth 100000 in
theorem iAbs_any (s1 : Bool) (p1 : Option Addr) (k1 c1 : Nat) (q1 : Option Addr) (l1 d1 : Nat) (sz1 : Bool) (pz1 : Option Addr) (kz1 cz1 : Nat) (qz1 : Option Addr) (lz1 dz1 : Nat) (x1 : Bool) (y1 : Bool) (a b : Bool × Nat × Nat) (w : World) (ha : NRep w (.agg #[.bool s1, .slice p1 k1 c1, .slice q1 l1 d1]) a) (hb : NRep w (.agg #[.bool sz1, .slice pz1 kz1 cz1, .slice qz1 lz1 dz1]) b) (ht : TabOk w) :
    Calls Tryz.prog 28 #[.agg #[.bool s1, .slice p1 k1 c1, .slice q1 l1 d1, .bool sz1, .slice pz1 kz1 cz1, .slice qz1 lz1 dz1, .bool x1, .bool y1]] w fun e w' => ∃ s5 p5 k5 c5 q5 l5 d5 sz5 pz5 kz5 cz5 qz5 lz5 dz5 x5 y5, e = .returned (.tuple #[.agg #[.bool s5, .slice p5 k5 c5, .slice q5 l5 d5, .bool sz5, .slice pz5 kz5 cz5, .slice qz5 lz5 dz5, .bool x5, .bool y5], .int .i64 (icode (a, b, x1, y1))]) ∧ Hid (GRep w' (.agg #[.bool s5, .slice p5 k5 c5, .slice q5 l5 d5, .bool sz5, .slice pz5 kz5 cz5, .slice qz5 lz5 dz5, .bool x5, .bool y5]) (iop sabs (a, b, x1, y1))) ∧ Below w.heap.size w w' := by
  obtain ⟨c, hc⟩ : ∃ r, r = icode (a, b, x1, y1) := ⟨_, rfl⟩
  obtain ⟨D, hD⟩ : ∃ r, r = iop sabs (a, b, x1, y1) := ⟨_, rfl⟩
  rw [← hc, ← hD]
  have HC : Hid (∀ W, Below w.heap.size w W → Calls Tryz.prog 77 #[.agg #[.bool s1, .slice p1 k1 c1, .slice q1 l1 d1, .bool sz1, .slice pz1 kz1 cz1, .slice qz1 lz1 dz1, .bool x1, .bool y1], .bool true, .func (.func 80) #[] #[]] W fun e w' => ∃ s5 p5 k5 c5 q5 l5 d5 sz5 pz5 kz5 cz5 qz5 lz5 dz5 x5 y5, e = .returned (.tuple #[.agg #[.bool s5, .slice p5 k5 c5, .slice q5 l5 d5, .bool sz5, .slice pz5 kz5 cz5, .slice qz5 lz5 dz5, .bool x5, .bool y5], .int .i64 c]) ∧ Hid (GRep w' (.agg #[.bool s5, .slice p5 k5 c5, .slice q5 l5 d5, .bool sz5, .slice pz5 kz5 cz5, .slice qz5 lz5 dz5, .bool x5, .bool y5]) D) ∧ Below W.heap.size W w') := by
    refine hid fun W hW => ?_
    rw [hc, hD]
    refine one_val s1 p1 k1 c1 q1 l1 d1 sz1 pz1 kz1 cz1 qz1 lz1 dz1 x1 y1 _ #[] sabs a b W (ha.below hW) (hb.below hW) (ht.below hW) enter_sabs (fun h1 h2 h3 => ?_) (fun h1 h2 _ W4 i3 s3 p3 k3 c3 q3 l3 d3 j3 sz3 pz3 kz3 cz3 qz3 lz3 dz3 e3 hW4 hS => ?_)
    · exact ⟨(sabs_fit (x := x1) (y := y1) h1 h2).1, (sabs_fit (x := x1) (y := y1) h1 h2).2, sabs_in h3⟩
    · exact sabs_any i3 s3 p3 k3 c3 q3 l3 d3 j3 sz3 pz3 kz3 cz3 qz3 lz3 dz3 e3 _ 64 W4 hS ⟨rdE_ok (inf := x1) (g := -1) (.inr rfl) h1, rdE_ok (inf := y1) (g := 1) (.inl rfl) h2⟩ (by omega)
  clear ha hb ht hc hD
  go_enter Tryz.func28, Tryz.ntmps28
  go_wp2_with fail
  have HV := hid (pre2 w [.bool s1, .slice p1 k1 c1, .slice q1 l1 d1, .bool sz1, .slice pz1 kz1 cz1, .slice qz1 lz1 dz1, .bool x1, .bool y1] [.bool false, .slice none 0 0, .slice none 0 0, .bool false, .slice none 0 0, .slice none 0 0, .bool false, .bool false] 26 26 ⟨trivial, trivial, trivial, trivial, trivial, trivial, trivial, trivial, trivial⟩ ⟨trivial, trivial, trivial, trivial, trivial, trivial, trivial, trivial, trivial⟩)
  generalize (w.alloc (.cells #[.bool s1, .slice p1 k1 c1, .slice q1 l1 d1, .bool sz1, .slice pz1 kz1 cz1, .slice qz1 lz1 dz1, .bool x1, .bool y1] 26)).alloc (.cells #[.bool false, .slice none 0 0, .slice none 0 0, .bool false, .slice none 0 0, .slice none 0 0, .bool false, .bool false] 26) = W0 at *
  refine (HC.out _ HV.out.2.2).mono ?_
  rintro e w1 ⟨s5, p5, k5, c5, q5, l5, d5, sz5, pz5, kz5, cz5, qz5, lz5, dz5, x5, y5, rfl, hG, hB1⟩
  have HE := hid (And.intro (HV.out.2.1.below hB1) (HV.out.2.2.trans (hB1.mono HV.out.2.2.size)))
  clear hB1
  obtain ⟨g0, g1, g2, g3, g4, g5, g6, g7, f0, f1, f2, f3, f4, f5, f6, f7⟩ := HE.out.1.cells8
  go_wp2_with fail
  exact iAbs_ret rfl rfl (HE.out.1.stores [.bool s5, .slice p5 k5 c5, .slice q5 l5 d5, .bool sz5, .slice pz5 kz5 cz5, .slice qz5 lz5 dz5, .bool x5, .bool y5] rfl ⟨trivial, trivial, trivial, trivial, trivial, trivial, trivial, trivial, trivial⟩) ⟨s5, p5, k5, c5, q5, l5, d5, sz5, pz5, kz5, cz5, qz5, lz5, dz5, x5, y5, rfl, hid (GRep.stores (k := 0) (l := [.bool s5, .slice p5 k5 c5, .slice q5 l5 d5, .bool sz5, .slice pz5 kz5 cz5, .slice qz5 lz5 dz5, .bool x5, .bool y5]) hG.out HE.out.1 ⟨trivial, trivial, trivial, trivial, trivial, trivial, trivial, trivial, trivial⟩), Below.stores (k := 0) (l := [.bool s5, .slice p5 k5 c5, .slice q5 l5 d5, .bool sz5, .slice pz5 kz5 cz5, .slice qz5 lz5 dz5, .bool x5, .bool y5]) HE.out.2 (by omega)⟩


theorem jAbs_ret {W : World} {B : Nat} {a0 a1 a2 a3 a4 a5 a6 a7 ev : Value} {tm : Array Value} {R : Ending → World → Prop} (h2 : tm[2]?.getD undef = .pointer (some ⟨B, 0, none⟩)) (h3 : tm[3]?.getD undef = ev) (hV : Box W B #[a0, a1, a2, a3, a4, a5, a6, a7]) (hR : R (.returned (.tuple #[.agg #[a0, a1, a2, a3, a4, a5, a6, a7], ev])) W) :
    bodyPost Tryz.prog Tryz.f29 R .ret { tmps := tm, defers := [] } W := by
  obtain ⟨g0, g1, g2, g3, g4, g5, g6, g7, _⟩ := hV.cells8
  exact bodyPost_ret (v := .tuple #[.agg #[a0, a1, a2, a3, a4, a5, a6, a7], ev]) (by simp [results, Tryz.results29, go_sem, h2, h3, g0, g1, g2, g3, g4, g5, g6, g7]) rfl hR
set_option maxHeartbeats 2000000 in
set_option maxRecDepth 100000 in
theorem jAbs_large (s1 : Bool) (p1 : Option Addr) (k1 c1 : Nat) (q1 : Option Addr) (l1 d1 : Nat) (sz1 : Bool) (pz1 : Option Addr) (kz1 cz1 : Nat) (qz1 : Option Addr) (lz1 dz1 : Nat) (x1 : Bool) (y1 : Bool) (a b : Bool × Nat × Nat) (w : World) (ha : NRep w (.agg #[.bool s1, .slice p1 k1 c1, .slice q1 l1 d1]) a) (hb : NRep w (.agg #[.bool sz1, .slice pz1 kz1 cz1, .slice qz1 lz1 dz1]) b) (h : ilarge (a, b, x1, y1) = true) :
    Calls Tryz.prog 29 #[.agg #[.bool s1, .slice p1 k1 c1, .slice q1 l1 d1, .bool sz1, .slice pz1 kz1 cz1, .slice qz1 lz1 dz1, .bool x1, .bool y1]] w fun e w' => ∃ s5 p5 k5 c5 q5 l5 d5 sz5 pz5 kz5 cz5 qz5 lz5 dz5 x5 y5, e = .returned (.tuple #[.agg #[.bool s5, .slice p5 k5 c5, .slice q5 l5 d5, .bool sz5, .slice pz5 kz5 cz5, .slice qz5 lz5 dz5, .bool x5, .bool y5], .int .i64 1]) ∧ Hid (GRep w' (.agg #[.bool s5, .slice p5 k5 c5, .slice q5 l5 d5, .bool sz5, .slice pz5 kz5 cz5, .slice qz5 lz5 dz5, .bool x5, .bool y5]) gzero) ∧ Below w.heap.size w w' := by
  have HL := hid (fun (W : World) (hW : Below w.heap.size w W) => jOne_large s1 p1 k1 c1 q1 l1 d1 sz1 pz1 kz1 cz1 qz1 lz1 dz1 x1 y1 a b 0 W (ha.below hW) (hb.below hW) h)
  clear ha hb h
  go_enter Tryz.func29, Tryz.ntmps29
  go_wp2_with fail
  have HV := hid (pre2 w [.bool s1, .slice p1 k1 c1, .slice q1 l1 d1, .bool sz1, .slice pz1 kz1 cz1, .slice qz1 lz1 dz1, .bool x1, .bool y1] [.bool false, .slice none 0 0, .slice none 0 0, .bool false, .slice none 0 0, .slice none 0 0, .bool false, .bool false] 26 26 ⟨trivial, trivial, trivial, trivial, trivial, trivial, trivial, trivial, trivial⟩ ⟨trivial, trivial, trivial, trivial, trivial, trivial, trivial, trivial, trivial⟩)
  generalize (w.alloc (.cells #[.bool s1, .slice p1 k1 c1, .slice q1 l1 d1, .bool sz1, .slice pz1 kz1 cz1, .slice qz1 lz1 dz1, .bool x1, .bool y1] 26)).alloc (.cells #[.bool false, .slice none 0 0, .slice none 0 0, .bool false, .slice none 0 0, .slice none 0 0, .bool false, .bool false] 26) = W0 at *
  refine (HL.out _ HV.out.2.2).mono ?_
  rintro e w1 ⟨rfl, hB1⟩
  have HE := hid (And.intro (HV.out.2.1.below hB1) (HV.out.2.2.trans (hB1.mono HV.out.2.2.size)))
  clear hB1
  go_upto_region 3 with fail
  have HX := hid (pre1 w1 [.bool false, .slice none 0 0, .slice none 0 0, .bool false, .slice none 0 0, .slice none 0 0, .bool false, .bool false, .bool false] 73 ⟨trivial, trivial, trivial, trivial, trivial, trivial, trivial, trivial, trivial, trivial⟩)
  have hlt : w.heap.size + 1 < w1.heap.size := HE.out.1.lt
  generalize w1.alloc (.cells #[.bool false, .slice none 0 0, .slice none 0 0, .bool false, .slice none 0 0, .slice none 0 0, .bool false, .bool false, .bool false] 73) = W1 at *
  have HE2 := hid (And.intro (HE.out.1.below HX.out.2) (HE.out.2.trans (HX.out.2.mono HE.out.2.size)))
  obtain ⟨g0, g1, g2, g3, g4, g5, g6, g7, f0, f1, f2, f3, f4, f5, f6, f7⟩ := HE2.out.1.cells8
  go_wp2_with fail
  exact jAbs_ret rfl rfl (HE2.out.1.stores [.bool false, .slice none 0 0, .slice none 0 0, .bool false, .slice none 0 0, .slice none 0 0, .bool false, .bool false] rfl ⟨trivial, trivial, trivial, trivial, trivial, trivial, trivial, trivial, trivial⟩) ⟨_, _, _, _, _, _, _, _, _, _, _, _, _, _, _, _, rfl, hid (GRep.stores (k := 0) (l := [.bool false, .slice none 0 0, .slice none 0 0, .bool false, .slice none 0 0, .slice none 0 0, .bool false, .bool false] ) (GRep.zero W1) HE2.out.1 ⟨trivial, trivial, trivial, trivial, trivial, trivial, trivial, trivial, trivial⟩), Below.stores (k := 0) (l := [.bool false, .slice none 0 0, .slice none 0 0, .bool false, .slice none 0 0, .slice none 0 0, .bool false, .bool false] ) HE2.out.2 (by omega)⟩

set_option maxHeartbeats 2000000 in
set_option maxRecDepth 100000 in
theorem jAbs_ok (s1 : Bool) (p1 : Option Addr) (k1 c1 : Nat) (q1 : Option Addr) (l1 d1 : Nat) (sz1 : Bool) (pz1 : Option Addr) (kz1 cz1 : Nat) (qz1 : Option Addr) (lz1 dz1 : Nat) (x1 : Bool) (y1 : Bool) (a b : Bool × Nat × Nat) (w : World) (ha : NRep w (.agg #[.bool s1, .slice p1 k1 c1, .slice q1 l1 d1]) a) (hb : NRep w (.agg #[.bool sz1, .slice pz1 kz1 cz1, .slice qz1 lz1 dz1]) b) (h1 : large a.2.1 a.2.2 = false) (h2 : large b.2.1 b.2.2 = false) :
    Calls Tryz.prog 29 #[.agg #[.bool s1, .slice p1 k1 c1, .slice q1 l1 d1, .bool sz1, .slice pz1 kz1 cz1, .slice qz1 lz1 dz1, .bool x1, .bool y1]] w fun e w' => ∃ s5 p5 k5 c5 q5 l5 d5 sz5 pz5 kz5 cz5 qz5 lz5 dz5 x5 y5, e = .returned (.tuple #[.agg #[.bool s5, .slice p5 k5 c5, .slice q5 l5 d5, .bool sz5, .slice pz5 kz5 cz5, .slice qz5 lz5 dz5, .bool x5, .bool y5], .int .i64 0]) ∧ Hid (GRep w' (.agg #[.bool s5, .slice p5 k5 c5, .slice q5 l5 d5, .bool sz5, .slice pz5 kz5 cz5, .slice qz5 lz5 dz5, .bool x5, .bool y5]) (japi (jsize (jof (a, b, x1, y1))))) ∧ Below w.heap.size w w' := by
  have HL := hid (fun (W : World) (hW : Below w.heap.size w W) => jOne_ok s1 p1 k1 c1 q1 l1 d1 sz1 pz1 kz1 cz1 qz1 lz1 dz1 x1 y1 a b 0 W (ha.below hW) (hb.below hW) h1 h2 (by omega) (by omega))
  have HM := hid (fun (W : World) (s3 : Bool) (p3 : Option Addr) (k3 c3 : Nat) (q3 : Option Addr) (l3 d3 : Nat) (sz3 : Bool) (pz3 : Option Addr) (kz3 cz3 : Nat) (qz3 : Option Addr) (lz3 dz3 : Nat) (x3 : Bool) (y3 : Bool) (e3 : Bool) (h : JRep W (.agg #[.bool s3, .slice p3 k3 c3, .slice q3 l3 d3, .bool sz3, .slice pz3 kz3 cz3, .slice qz3 lz3 dz3, .bool x3, .bool y3, .bool e3]) (jof (a, b, x1, y1))) => jSize_of s3 p3 k3 c3 q3 l3 d3 sz3 pz3 kz3 cz3 qz3 lz3 dz3 x3 y3 e3 h1 h2 W h)
  have HA := hid (fun (W : World) (s3 : Bool) (p3 : Option Addr) (k3 c3 : Nat) (q3 : Option Addr) (l3 d3 : Nat) (sz3 : Bool) (pz3 : Option Addr) (kz3 cz3 : Nat) (qz3 : Option Addr) (lz3 dz3 : Nat) (x3 : Bool) (y3 : Bool) (e3 : Bool) (h : JRep W (.agg #[.bool s3, .slice p3 k3 c3, .slice q3 l3 d3, .bool sz3, .slice pz3 kz3 cz3, .slice qz3 lz3 dz3, .bool x3, .bool y3, .bool e3]) (jsize (jof (a, b, x1, y1)))) => jApi_any s3 p3 k3 c3 q3 l3 d3 sz3 pz3 kz3 cz3 qz3 lz3 dz3 x3 y3 e3 _ W h (jsize_bd (JGood.of h1 h2)))
  clear ha hb h1 h2
  obtain ⟨r, hr⟩ : ∃ r, r = jof (a, b, x1, y1) := ⟨_, rfl⟩
  rw [← hr] at HL HM HA
  rw [← hr]
  clear hr
  go_enter Tryz.func29, Tryz.ntmps29
  go_wp2_with fail
  have HV := hid (pre2 w [.bool s1, .slice p1 k1 c1, .slice q1 l1 d1, .bool sz1, .slice pz1 kz1 cz1, .slice qz1 lz1 dz1, .bool x1, .bool y1] [.bool false, .slice none 0 0, .slice none 0 0, .bool false, .slice none 0 0, .slice none 0 0, .bool false, .bool false] 26 26 ⟨trivial, trivial, trivial, trivial, trivial, trivial, trivial, trivial, trivial⟩ ⟨trivial, trivial, trivial, trivial, trivial, trivial, trivial, trivial, trivial⟩)
  generalize (w.alloc (.cells #[.bool s1, .slice p1 k1 c1, .slice q1 l1 d1, .bool sz1, .slice pz1 kz1 cz1, .slice qz1 lz1 dz1, .bool x1, .bool y1] 26)).alloc (.cells #[.bool false, .slice none 0 0, .slice none 0 0, .bool false, .slice none 0 0, .slice none 0 0, .bool false, .bool false] 26) = W0 at *
  refine (HL.out _ HV.out.2.2).mono ?_
  rintro e w1 ⟨s2, p2, k2, c2, q2, l2, d2, sz2, pz2, kz2, cz2, qz2, lz2, dz2, x2, y2, e2, rfl, hJ, hB1⟩
  have HE := hid (And.intro (HV.out.2.1.below hB1) (HV.out.2.2.trans (hB1.mono HV.out.2.2.size)))
  clear hB1
  go_upto_region 4 with fail
  have HX := hid (pre1 w1 [.bool s2, .slice p2 k2 c2, .slice q2 l2 d2, .bool sz2, .slice pz2 kz2 cz2, .slice qz2 lz2 dz2, .bool x2, .bool y2, .bool e2] 73 ⟨trivial, trivial, trivial, trivial, trivial, trivial, trivial, trivial, trivial, trivial⟩)
  have hlt : w.heap.size + 1 < w1.heap.size := HE.out.1.lt
  have HJ := hid (hJ.out.below HX.out.2)
  clear hJ
  generalize w1.alloc (.cells #[.bool s2, .slice p2 k2 c2, .slice q2 l2 d2, .bool sz2, .slice pz2 kz2 cz2, .slice qz2 lz2 dz2, .bool x2, .bool y2, .bool e2] 73) = W1 at *
  have HE2 := hid (And.intro (HE.out.1.below HX.out.2) (HE.out.2.trans (HX.out.2.mono HE.out.2.size)))
  obtain ⟨m0, m1, m2, m3, m4, m5, m6, m7, m8, _⟩ := HX.out.1.cells9
  go_wp2_with fail
  refine (HM.out _ s2 p2 k2 c2 q2 l2 d2 sz2 pz2 kz2 cz2 qz2 lz2 dz2 x2 y2 e2 HJ.out).mono ?_
  rintro e w2' ⟨s6, p6, k6, c6, q6, l6, d6, sz6, pz6, kz6, cz6, qz6, lz6, dz6, x6, y6, e6, rfl, hM, hB2'⟩
  have HE2' := hid (And.intro (HE2.out.1.below hB2') (HE2.out.2.trans (hB2'.mono HE2.out.2.size)))
  clear hB2' m0 m1 m2 m3 m4 m5 m6 m7 m8
  go_wp2_with fail
  refine (HA.out _ s6 p6 k6 c6 q6 l6 d6 sz6 pz6 kz6 cz6 qz6 lz6 dz6 x6 y6 e6 hM.out).mono ?_
  rintro e w2 ⟨s5, p5, k5, c5, q5, l5, d5, sz5, pz5, kz5, cz5, qz5, lz5, dz5, x5, y5, rfl, hG, hB2⟩
  have HE3 := hid (And.intro (HE2'.out.1.below hB2) (HE2'.out.2.trans (hB2.mono HE2'.out.2.size)))
  clear hB2
  obtain ⟨g0, g1, g2, g3, g4, g5, g6, g7, f0, f1, f2, f3, f4, f5, f6, f7⟩ := HE3.out.1.cells8
  go_wp2_with fail
  exact jAbs_ret rfl rfl (HE3.out.1.stores [.bool s5, .slice p5 k5 c5, .slice q5 l5 d5, .bool sz5, .slice pz5 kz5 cz5, .slice qz5 lz5 dz5, .bool x5, .bool y5] rfl ⟨trivial, trivial, trivial, trivial, trivial, trivial, trivial, trivial, trivial⟩) ⟨s5, p5, k5, c5, q5, l5, d5, sz5, pz5, kz5, cz5, qz5, lz5, dz5, x5, y5, rfl, hid (GRep.stores (k := 0) (l := [.bool s5, .slice p5 k5 c5, .slice q5 l5 d5, .bool sz5, .slice pz5 kz5 cz5, .slice qz5 lz5 dz5, .bool x5, .bool y5]) hG.out HE3.out.1 ⟨trivial, trivial, trivial, trivial, trivial, trivial, trivial, trivial, trivial⟩), Below.stores (k := 0) (l := [.bool s5, .slice p5 k5 c5, .slice q5 l5 d5, .bool sz5, .slice pz5 kz5 cz5, .slice qz5 lz5 dz5, .bool x5, .bool y5]) HE3.out.2 (by omega)⟩

/-- What Neg of the reference returns. -/
def jabs (a : (Bool × Nat × Nat) × (Bool × Nat × Nat) × Bool × Bool) : (Bool × Nat × Nat) × (Bool × Nat × Nat) × Bool × Bool := if ilarge a then gzero else japi (jsize (jof a))
theorem jAbs_any (s1 : Bool) (p1 : Option Addr) (k1 c1 : Nat) (q1 : Option Addr) (l1 d1 : Nat) (sz1 : Bool) (pz1 : Option Addr) (kz1 cz1 : Nat) (qz1 : Option Addr) (lz1 dz1 : Nat) (x1 : Bool) (y1 : Bool) (a b : Bool × Nat × Nat) (w : World) (ha : NRep w (.agg #[.bool s1, .slice p1 k1 c1, .slice q1 l1 d1]) a) (hb : NRep w (.agg #[.bool sz1, .slice pz1 kz1 cz1, .slice qz1 lz1 dz1]) b) :
    Calls Tryz.prog 29 #[.agg #[.bool s1, .slice p1 k1 c1, .slice q1 l1 d1, .bool sz1, .slice pz1 kz1 cz1, .slice qz1 lz1 dz1, .bool x1, .bool y1]] w fun e w' => ∃ s5 p5 k5 c5 q5 l5 d5 sz5 pz5 kz5 cz5 qz5 lz5 dz5 x5 y5, e = .returned (.tuple #[.agg #[.bool s5, .slice p5 k5 c5, .slice q5 l5 d5, .bool sz5, .slice pz5 kz5 cz5, .slice qz5 lz5 dz5, .bool x5, .bool y5], .int .i64 (icode (a, b, x1, y1))]) ∧ Hid (GRep w' (.agg #[.bool s5, .slice p5 k5 c5, .slice q5 l5 d5, .bool sz5, .slice pz5 kz5 cz5, .slice qz5 lz5 dz5, .bool x5, .bool y5]) (jabs (a, b, x1, y1))) ∧ Below w.heap.size w w' := by
  cases hL : (large a.2.1 a.2.2 || large b.2.1 b.2.2)
  · have hla : ilarge (a, b, x1, y1) = false := hL
    rw [Bool.or_eq_false_iff] at hL
    have ec : icode (a, b, x1, y1) = 0 := by unfold icode; rw [hla]; rfl
    have eD : jabs (a, b, x1, y1) = japi (jsize (jof (a, b, x1, y1))) := by unfold jabs; rw [hla]; rfl
    rw [ec, eD]
    exact jAbs_ok s1 p1 k1 c1 q1 l1 d1 sz1 pz1 kz1 cz1 qz1 lz1 dz1 x1 y1 a b w ha hb hL.1 hL.2
  · have hla : ilarge (a, b, x1, y1) = true := hL
    have ec : icode (a, b, x1, y1) = 1 := by unfold icode; rw [hla]; rfl
    have eD : jabs (a, b, x1, y1) = gzero := by unfold jabs; rw [hla]; rfl
    rw [ec, eD]
    exact jAbs_large s1 p1 k1 c1 q1 l1 d1 sz1 pz1 kz1 cz1 qz1 lz1 dz1 x1 y1 a b w ha hb hla
theorem jsize_low {lo hi : Bool × Nat × Nat} {x y : Bool} (h : (!x && decide (0 ≤ sgn lo.1 lo.2.1)) = true) : jsize (lo, hi, x, y, false) = (lo, hi, x, y, false) := by
  have e : jsg (lo, hi, x, y, false) = 0 ∨ jsg (lo, hi, x, y, false) = 2 ∨ jsg (lo, hi, x, y, false) = 1 := by
    show sgo x y (sgn lo.1 lo.2.1) (sgn hi.1 hi.2.1) = 0 ∨ sgo x y (sgn lo.1 lo.2.1) (sgn hi.1 hi.2.1) = 2 ∨ sgo x y (sgn lo.1 lo.2.1) (sgn hi.1 hi.2.1) = 1
    unfold sgo
    rw [h]
    simp only [if_true]
    repeat' split
    all_goals simp
  unfold jsize
  rcases e with e | e | e <;> rw [e] <;> rfl
theorem jsize_high {lo hi : Bool × Nat × Nat} {x y : Bool} (h : (!x && decide (0 ≤ sgn lo.1 lo.2.1)) = false) (h' : (!y && decide (sgn hi.1 hi.2.1 ≤ 0)) = true) : jsize (lo, hi, x, y, false) = jminus (lo, hi, x, y, false) := by
  have e : jsg (lo, hi, x, y, false) = -2 ∨ jsg (lo, hi, x, y, false) = -1 := by
    show sgo x y (sgn lo.1 lo.2.1) (sgn hi.1 hi.2.1) = -2 ∨ sgo x y (sgn lo.1 lo.2.1) (sgn hi.1 hi.2.1) = -1
    unfold sgo
    rw [h, h']
    simp only [if_true, Bool.false_eq_true, if_false]
    split <;> simp
  unfold jsize
  rw [if_pos e]
theorem jsize_mixed {lo hi : Bool × Nat × Nat} {x y : Bool} (h : (!x && decide (0 ≤ sgn lo.1 lo.2.1)) = false) (h' : (!y && decide (sgn hi.1 hi.2.1 ≤ 0)) = false) : jsize (lo, hi, x, y, false) = jmix (lo, hi, x, y, false) := by
  have e : jsg (lo, hi, x, y, false) = 3 := by
    show sgo x y (sgn lo.1 lo.2.1) (sgn hi.1 hi.2.1) = 3
    unfold sgo
    rw [h, h']
    rfl
  unfold jsize
  rw [e]
  rfl
theorem ecmp_fin (a b : Bool × Nat × Nat) : ecmp (0, a) (0, b) = fcmp a b := by unfold ecmp; simp
theorem emax_fin (a b : Bool × Nat × Nat) : emax (0, a) (0, b) = (0, qmax a b) := by
  unfold emax qmax
  rw [ecmp_fin]
  split <;> rfl
theorem abs_same {a b : Bool × Nat × Nat} {x y : Bool} (h1 : large a.2.1 a.2.2 = false) (h2 : large b.2.1 b.2.2 = false) :
    (if (srd (a, b, x, y)).2.2 then giv (srd (a, b, x, y)) else giv (sabs (srd (a, b, x, y)))) = japi (jsize (jof (a, b, x, y))) := by
  have hneg := neg_same (x := x) (y := y) h1 h2
  have hid' := giv_srd (x := x) (y := y) h1 h2
  cases he : (srd (a, b, x, y)).2.2
  · rw [he] at hneg
    show giv (sabs (srd (a, b, x, y))) = _
    have hneg' : giv (sneg (srd (a, b, x, y))) = japi (jminus (jof (a, b, x, y))) := hneg
    have hJ := jof_in he
    rw [hJ] at hid' hneg' ⊢
    clear hneg
    have e1 : (srd (a, b, x, y)).1 = rdE x (-1) a := rfl
    have e2 : (srd (a, b, x, y)).2.1 = rdE y 1 b := rfl
    have el : (0 ≤ esgn (rdE x (-1) a)) ↔ (!x && decide (0 ≤ sgn (if x then (false, 0, 0) else fr a).1 (if x then (false, 0, 0) else fr a).2.1)) = true := by
      cases x
      · show 0 ≤ sgn (fr a).1 (fr a).2.1 ↔ (!false && decide (0 ≤ sgn (fr a).1 (fr a).2.1)) = true
        simp
      · show (0 : Int) ≤ -1 ↔ _
        simp
    have eh : (esgn (rdE y 1 b) ≤ 0) ↔ (!y && decide (sgn (if y then (false, 0, 0) else fr b).1 (if y then (false, 0, 0) else fr b).2.1 ≤ 0)) = true := by
      cases y
      · show sgn (fr b).1 (fr b).2.1 ≤ 0 ↔ (!false && decide (sgn (fr b).1 (fr b).2.1 ≤ 0)) = true
        simp
      · show (1 : Int) ≤ 0 ↔ _
        simp
    unfold sabs
    rw [e1, e2]
    by_cases hl : 0 ≤ esgn (rdE x (-1) a)
    · rw [if_pos hl, hid', jsize_low (el.1 hl)]
    · have hl' := Bool.eq_false_iff.2 (fun h => hl (el.2 h))
      rw [if_neg hl]
      by_cases hh : esgn (rdE y 1 b) ≤ 0
      · rw [if_pos hh, hneg', jsize_high hl' (eh.1 hh)]
      · have hh' := Bool.eq_false_iff.2 (fun h => hh (eh.2 h))
        rw [if_neg hh, jsize_mixed hl' hh']
        have ez : outF (false, 0, 1) = (false, 0, 0) := by decide
        cases x <;> cases y
        · show giv ((0, false, 0, 1), emax (0, fneg (fr a)) (0, fr b), false) = (jrat (false, 0, 0), jrat (qmax (fneg (fr a)) (fr b)), false, false)
          rw [emax_fin, ((QFit.of h1).neg.max (QFit.of h2)).jrat, jrat_zero]
          show (outF (false, 0, 1), outF (qmax (fneg (fr a)) (fr b)), false, false) = _
          rw [ez]
        all_goals
          show _ = (jrat (false, 0, 0), jrat (false, 0, 0), false, true)
          rw [jrat_zero]
          show (outF (false, 0, 1), _, _, _) = _
          rw [ez]
          rfl
  · show giv (srd (a, b, x, y)) = _
    rw [hid', jof_out he]
    rfl
theorem abs_eq (a b : Bool × Nat × Nat) (x y : Bool) : jabs (a, b, x, y) = iop sabs (a, b, x, y) := by
  unfold jabs iop
  cases h : ilarge (a, b, x, y)
  · have h' : (large a.2.1 a.2.2 || large b.2.1 b.2.2) = false := h
    rw [Bool.or_eq_false_iff] at h'
    exact (abs_same h'.1 h'.2).symm
  · rfl
theorem abs_ok (a b : Bool × Nat × Nat) (x y : Bool) (h : icode (a, b, x, y) = 0) : ∃ r, JGood r ∧ iop sabs (a, b, x, y) = japi r := by
  unfold icode at h
  cases hl : ilarge (a, b, x, y)
  · have h' : (large a.2.1 a.2.2 || large b.2.1 b.2.2) = false := hl
    rw [Bool.or_eq_false_iff] at h'
    obtain ⟨r, hr, he⟩ := jsize_good (JGood.of (x := x) (y := y) h'.1 h'.2)
    refine ⟨r, hr, ?_⟩
    rw [← abs_eq, ← he]
    unfold jabs
    rw [hl]
    rfl
  · rw [hl] at h
    exact absurd h (by decide)
end Go.Proofs.YtpdpabpdejmdbaaGreatDoor
