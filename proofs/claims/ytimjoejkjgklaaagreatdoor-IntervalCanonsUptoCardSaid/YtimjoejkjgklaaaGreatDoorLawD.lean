/- The law NumberSigns: Sgn, Opp, Mag of the answers. -/
import Derived.Test.YtimjoejkjgklaaaGreatDoorLawC
import Derived.Test.YtimjoejkjgklaaaGreatDoorNumY
set_option maxHeartbeats 1000000
set_option maxRecDepth 100000
namespace Go.Proofs.YtimjoejkjgklaaaGreatDoor
open Go.RowKit Dg
theorem QNorm.alloc {w : World} {v : Value} {t : Bool × Nat × Nat} (h : QNorm w v t) (o : Obj) : QNorm (w.alloc o) v t := h.below ((Below.refl _ _).alloc (Nat.le_refl _) o)
theorem Opp_ret {W : World} {B : Nat} {x y z : Value} {tm : Array Value} {R : Ending → World → Prop} (h2 : tm[2]?.getD undef = .pointer (some ⟨B, 0, none⟩)) (hV : Var3 W B x y z) (hR : R (.returned (.agg #[x, y, z])) W) :
    bodyPost Tryz.prog Tryz.f157 R .ret { tmps := tm, defers := [] } W := by
  obtain ⟨c0, c1, c2, _, _, _⟩ := hV.cells
  exact bodyPost_ret (v := .agg #[x, y, z]) (by simp [results, Tryz.results157, go_sem, h2, c0, c1, c2]) rfl hR
theorem Sgn_any (v : Value) (t : Bool × Nat × Nat) (w : World) (h : QNorm w v t) (hz : t.2.1 = 0 → t.1 = false) :
    Calls Tryz.prog 105 #[v] w fun e w' => e = .returned (.int .i64 (sgn t.1 t.2.1)) ∧ Below w.heap.size w w' := by
  obtain ⟨vn, vd, rfl, ⟨p1, k1, c1, rfl, _, hl1, _⟩, ⟨p2, k2, c2, rfl, _⟩⟩ := h
  have hk := hl1.zero_iff B16_pos
  obtain ⟨sg, hsg⟩ : ∃ s, s = t.1 := ⟨_, rfl⟩
  rw [← hsg] at hz ⊢
  by_cases h0 : t.2.1 = 0
  · obtain rfl := hk.1 h0
    have hs := hz h0
    rw [h0, hs, show sgn false 0 = 0 from rfl]
    clear hsg hz hk h0 hs hl1
    go_enter Tryz.func105, Tryz.ntmps105
    go_wp2_with fail
    go_ret
    exact ⟨rfl, (Below.refl _ _).alloc (Nat.le_refl _) _⟩
  · have hk1 : ((k1 : Int) == 0) = false := by simp; exact fun h => h0 (hk.2 h)
    have hg : sgn sg t.2.1 = if sg then -1 else 1 := by unfold sgn; simp [h0]
    rw [hg]
    clear hsg hz hk h0 hl1 hg
    cases sg
    all_goals
      go_enter Tryz.func105, Tryz.ntmps105
      go_wp2_with fail
      go_ret
      exact ⟨rfl, (Below.refl _ _).alloc (Nat.le_refl _) _⟩
theorem Opp_at (sg : Bool) (p1 : Option Addr) (k1 c1 : Nat) (p2 : Option Addr) (k2 c2 : Nat) (w : World) :
    Calls Tryz.prog 157 #[.agg #[.bool sg, .slice p1 k1 c1, .slice p2 k2 c2]] w fun e w' => e = .returned (.agg #[.bool (!sg && decide (0 < k1)), .slice p1 k1 c1, .slice p2 k2 c2]) ∧ Below w.heap.size w w' := by
  by_cases h0 : 0 < k1
  · rw [decide_eq_true h0]
    cases sg
    all_goals
      go_enter Tryz.func157, Tryz.ntmps157
      go_wp2_with fail
      exact Opp_ret rfl (Var3.alloc2 w _ 64 trivial trivial trivial) ⟨rfl, below_alloc2 w _ _⟩
  · obtain rfl : k1 = 0 := by omega
    rw [decide_eq_false h0]
    cases sg
    all_goals
      go_enter Tryz.func157, Tryz.ntmps157
      go_wp2_with fail
      exact Opp_ret rfl (Var3.alloc2 w _ 64 trivial trivial trivial) ⟨rfl, below_alloc2 w _ _⟩
theorem Opp_any (v : Value) (t : Bool × Nat × Nat) (w : World) (h : QNorm w v t) :
    Calls Tryz.prog 157 #[v] w fun e w' => ∃ v', e = .returned v' ∧ QNorm w' v' (fneg t) ∧ Below w.heap.size w w' := by
  obtain ⟨vn, vd, rfl, ⟨p1, k1, c1, rfl, hx1, hl1, hy1⟩, ⟨p2, k2, c2, rfl, hx2⟩⟩ := h
  have hk := hl1.zero_iff B16_pos
  refine (Opp_at t.1 p1 k1 c1 p2 k2 c2 w).mono ?_
  rintro e w' ⟨rfl, hB⟩
  refine ⟨_, rfl, ⟨_, _, ?_, (show Rep B16 w _ t.2.1 from ⟨_, _, _, rfl, hx1, hl1, hy1⟩).below hB, (show Rep B16 w _ t.2.2 from ⟨_, _, _, rfl, hx2⟩).below hB⟩, hB⟩
  have hg : (fneg t).1 = (!t.1 && decide (0 < k1)) := by
    show (!t.1 && decide (t.2.1 ≠ 0)) = _
    congr 1
    exact decide_eq_decide.2 ⟨fun h => by have : k1 ≠ 0 := fun h2 => h (hk.2 h2); omega, fun h h2 => by have := hk.1 h2; omega⟩
  rw [hg]
theorem fneg_frac {s : Bool} {n d : Nat} (hd : 0 < d) : fneg (frac s n d) = frac (!s) n d := by
  have hz : n / Nat.gcd n d = 0 ↔ n = 0 := by
    constructor
    · intro h
      have := Nat.div_mul_cancel (Nat.gcd_dvd_left n d)
      rw [h, Nat.zero_mul] at this
      exact this.symm
    · intro h; rw [h, Nat.zero_div]
  have _ := hd
  unfold fneg frac
  by_cases h : n = 0
  · have h2 := hz.2 h
    simp [h]
  · have h2 : ¬ n / Nat.gcd n d = 0 := fun h3 => h (hz.1 h3)
    simp [h, h2]
end Go.Proofs.YtimjoejkjgklaaaGreatDoor
