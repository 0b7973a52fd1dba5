/- The rational numbers of the specification: whole, den, Make (the short ways). -/
import Derived.Test.YtdinpeglclkjhaaDoorRefD
import Derived.Test.YtdinpeglclkjhaaDoorFracF
namespace Go.Proofs.YtdinpeglclkjhaaDoor
open Go.RowKit Dg

/-- The value v is a rational number of the specification. -/
def QRep (w : World) (v : Value) (s : Bool) (n d : Nat) : Prop := ∃ vn vd, v = .agg #[.bool s, vn, vd] ∧ Rep B16 w vn n ∧ Rep B16 w vd d
theorem QRep.below {w w' : World} {v : Value} {s : Bool} {n d : Nat} (h : QRep w v s n d) (hb : Below w.heap.size w w') : QRep w' v s n d := by
  obtain ⟨vn, vd, hv, h1, h2⟩ := h
  exact ⟨vn, vd, hv, h1.below hb, h2.below hb⟩

theorem one_of_len16 {x n : Nat} (h : Len B16 x n) : x = 1 ↔ n = 1 ∧ dg B16 x 0 = 1 := by
  constructor
  · rintro rfl
    have h1 : Len B16 1 1 := ⟨by decide, fun _ => by decide⟩
    exact ⟨h.unique B16_one h1, by decide⟩
  · rintro ⟨rfl, h0⟩
    have := h.1
    simp only [dg, Nat.pow_zero, Nat.div_one, Nat.pow_one] at h0 this
    rwa [Nat.mod_eq_of_lt this] at h0

set_option maxHeartbeats 1000000 in
set_option maxRecDepth 100000 in
theorem whole_any (v : Value) (s : Bool) (n d : Nat) (w : World) (h : QRep w v s n d) :
    Calls Tryd.prog 58 #[v] w fun e w' => e = .returned (.bool (decide (d ≤ 1))) ∧ Below w.heap.size w w' := by
  obtain ⟨vn, vd, rfl, ⟨p1, k1, c1, rfl, _⟩, ⟨p2, k2, c2, rfl, _, hl, hs⟩⟩ := h
  have ho := one_of_len16 hl
  have hz := hl.zero_iff B16_pos
  by_cases h0 : k2 = 0
  · subst h0
    have hd : decide (d ≤ 1) = true := decide_eq_true (by have := hz.2 rfl; omega)
    rw [hd]
    clear hl hs ho hz hd
    go_enter Tryd.func58, Tryd.ntmps58
    go_wp2_with fail
    go_ret
    exact ⟨rfl, (Below.refl _ _).alloc (Nat.le_refl _) _⟩
  · have hf0 : ((k2 : Int) == 0) = false := by simpa using h0
    by_cases h1 : k2 = 1
    · subst h1
      obtain ⟨b, o, rfl, hc⟩ := hs (by omega)
      have hc0 := hc 0 (by omega)
      rw [Nat.add_zero] at hc0
      have hb : b < w.heap.size := World.block_lt_of_cell? _ _ hc0
      have hc1 : (w.alloc (.cells #[.bool s, .slice p1 k1 c1, .slice (some ⟨b, o, none⟩) 1 c2] 34)).cell? ⟨b, o, none⟩ = some (.int .u32 (dg B16 d 0 : Nat)) := by rw [World.cell?_alloc_lt _ _ _ hb]; exact hc0
      by_cases hd1 : dg B16 d 0 = 1
      · have hd : decide (d ≤ 1) = true := decide_eq_true (by have := ho.2 ⟨rfl, hd1⟩; omega)
        rw [hd]
        rw [hd1] at hc1
        clear hl hs ho hz hd hd1 hc hc0
        go_enter Tryd.func58, Tryd.ntmps58
        go_wp2_with fail
        go_ret
        exact ⟨rfl, (Below.refl _ _).alloc (Nat.le_refl _) _⟩
      · have hd : decide (d ≤ 1) = false := decide_eq_false (fun hh => by
          rcases (show d = 0 ∨ d = 1 by omega) with h | h
          · exact h0 (hz.1 h)
          · exact hd1 (ho.1 h).2)
        rw [hd]
        have hdf : (((dg B16 d 0 : Nat) : Int) == 1) = false := by simp; omega
        clear hl hs ho hz hd hc hc0
        generalize dg B16 d 0 = dd at *
        go_enter Tryd.func58, Tryd.ntmps58
        go_wp2_with fail
        go_ret
        exact ⟨rfl, (Below.refl _ _).alloc (Nat.le_refl _) _⟩
    · have hf1 : ((k2 : Int) == 1) = false := by simp; omega
      have hd : decide (d ≤ 1) = false := decide_eq_false (fun hh => by
        rcases (show d = 0 ∨ d = 1 by omega) with h | h
        · exact h0 (hz.1 h)
        · exact h1 (ho.1 h).1)
      rw [hd]
      clear hl hs ho hz hd
      go_enter Tryd.func58, Tryd.ntmps58
      go_wp2_with fail
      go_ret
      exact ⟨rfl, (Below.refl _ _).alloc (Nat.le_refl _) _⟩

set_option maxHeartbeats 1000000 in
set_option maxRecDepth 100000 in
theorem den_any (v : Value) (s : Bool) (n d : Nat) (w : World) (h : QRep w v s n d) :
    Calls Tryd.prog 63 #[v] w fun e w' => ∃ v', e = .returned v' ∧ Rep B16 w' v' (den1 d) ∧ Below w.heap.size w w' := by
  obtain ⟨vn, vd, rfl, ⟨p1, k1, c1, rfl, _⟩, hd⟩ := h
  have hd' := hid hd
  obtain ⟨p2, k2, c2, rfl, _, hl, _⟩ := hd
  have hz := hl.zero_iff B16_pos
  by_cases h0 : k2 = 0
  · subst h0
    have H0 := hid (hz.2 rfl)
    clear hl hz
    go_enter Tryd.func63, Tryd.ntmps63
    go_wp2_with fail
    refine (NatOf_any 1 _ (by decide)).mono ?_
    rintro e w1 ⟨v1, rfl, hR1, hB1⟩
    go_wp2_with fail
    go_ret
    refine ⟨_, rfl, ?_, ((Below.refl _ _).alloc (Nat.le_refl _) _).trans (hB1.mono (by rw [World.size_alloc]; omega))⟩
    rw [H0.out]
    exact hR1
  · have hf0 : ((k2 : Int) == 0) = false := by simpa using h0
    have H0 := hid (fun h => h0 (hz.1 h))
    clear hl hz h0
    go_enter Tryd.func63, Tryd.ntmps63
    go_wp2_with fail
    go_ret
    refine ⟨_, rfl, ?_, (Below.refl _ _).alloc (Nat.le_refl _) _⟩
    rw [show den1 d = d from if_neg H0.out]
    exact hd'.out.alloc _
end Go.Proofs.YtdinpeglclkjhaaDoor
