/- The natural numbers of the program: IsZero, IsOne, FromUint, comparisons. -/
import Derived.Test.YtdinpeglclkjhaaDoorNatB
import Derived.Deep.QuietTactic
import Derived.BigQuiet
namespace Go.Proofs.YtdinpeglclkjhaaDoor
open Go.RowKit Dg

theorem IsZero_any (v : Value) (x : Nat) (w : World) (h : Rep W32 w v x) :
    Calls Tryd.prog 110 #[v] w fun e w' => e = .returned (.bool (decide (x = 0))) ∧ w = w' := by
  obtain ⟨p, n, cap, rfl, _, hl, _⟩ := h
  have hz := hl.zero_iff W32_pos
  rw [show decide (x = 0) = ((n : Int) == 0) by rw [Bool.eq_iff_iff]; simp only [decide_eq_true_eq, beq_iff_eq]; omega]
  clear hl hz
  go_enter Tryd.func110, Tryd.ntmps110
  go_wp2
  go_ret
  exact ⟨rfl, rfl⟩

theorem one_of_len {x n : Nat} (hl : Len W32 x n) : x = 1 ↔ n = 1 ∧ dg W32 x 0 = 1 := by
  constructor
  · intro h
    subst h
    have h1 : Len W32 1 1 := ⟨by decide, fun _ => by decide⟩
    exact ⟨hl.unique W32_one h1, by decide⟩
  · rintro ⟨rfl, h⟩
    have := hl.1
    rw [dg_top (i := 0) this] at h
    simpa using h

theorem IsOne_any (v : Value) (x : Nat) (w : World) (h : Rep W32 w v x) :
    Calls Tryd.prog 102 #[v] w fun e w' => e = .returned (.bool (decide (x = 1))) ∧ w = w' := by
  obtain ⟨p, n, cap, rfl, _, hl, hs⟩ := h
  have ho := one_of_len hl
  by_cases h1 : n = 1
  · subst h1
    obtain ⟨b, off, rfl, hc⟩ := hs (by omega)
    have hc0 : w.cell? ⟨b, off, none⟩ = some (.int .u32 (dg W32 x 0 : Nat)) := hc 0 (by omega)
    rw [show decide (x = 1) = (((dg W32 x 0 : Nat) : Int) == 1) by rw [Bool.eq_iff_iff]; simp only [decide_eq_true_eq, beq_iff_eq]; omega]
    generalize dg W32 x 0 = d at *
    clear hl ho hs hc
    go_enter Tryd.func102, Tryd.ntmps102
    go_wp2
    go_ret
    exact ⟨rfl, rfl⟩
  · rw [show decide (x = 1) = false by simp; omega]
    have hb : ((n : Int) == 1) = false := by simp; omega
    clear hl ho hs
    go_enter Tryd.func102, Tryd.ntmps102
    go_wp2
    go_ret
    exact ⟨rfl, rfl⟩

/-- The three-way comparison. -/
def cmp3 (a b : Nat) : Int := if a < b then -1 else if b < a then 1 else 0
theorem cmp3_lt {a b : Nat} (h : a < b) : cmp3 a b = -1 := by simp [cmp3, h]
theorem cmp3_gt {a b : Nat} (h : b < a) : cmp3 a b = 1 := by simp [cmp3, h, show ¬ a < b by omega]
theorem cmp3_eq (a : Nat) : cmp3 a a = 0 := by simp [cmp3]

theorem cmpInt_any (a b : Nat) (w : World) :
    Calls Tryd.prog 111 #[.int .i64 a, .int .i64 b] w fun e w' => e = .returned (.int .i64 (cmp3 a b)) ∧ w = w' := by
  rcases Nat.lt_trichotomy a b with h | h | h
  · rw [cmp3_lt h]
    go_enter Tryd.func111, Tryd.ntmps111
    go_wp2
    go_ret
    exact ⟨rfl, rfl⟩
  · subst h
    rw [cmp3_eq]
    go_enter Tryd.func111, Tryd.ntmps111
    go_wp2
    go_ret
    exact ⟨rfl, rfl⟩
  · rw [cmp3_gt h]
    go_enter Tryd.func111, Tryd.ntmps111
    go_wp2
    go_ret
    exact ⟨rfl, rfl⟩

theorem cmpU32_any (a b : Nat) (w : World) :
    Calls Tryd.prog 129 #[.int .u32 a, .int .u32 b] w fun e w' => e = .returned (.int .i64 (cmp3 a b)) ∧ w = w' := by
  rcases Nat.lt_trichotomy a b with h | h | h
  · rw [cmp3_lt h]
    go_enter Tryd.func129, Tryd.ntmps129
    go_wp2
    go_ret
    exact ⟨rfl, rfl⟩
  · subst h
    rw [cmp3_eq]
    go_enter Tryd.func129, Tryd.ntmps129
    go_wp2
    go_ret
    exact ⟨rfl, rfl⟩
  · rw [cmp3_gt h]
    go_enter Tryd.func129, Tryd.ntmps129
    go_wp2
    go_ret
    exact ⟨rfl, rfl⟩

set_option maxRecDepth 100000 in
theorem FromUint_any (x : Nat) (w : World) (hx : x < W32 ^ 2) :
    Calls Tryd.prog 99 #[.int .u64 x] w fun e w' => ∃ v, e = .returned v ∧ Rep W32 w' v x ∧ Below w.heap.size w w' := by
  have hx' : x < 18446744073709551616 := by rw [W32_val] at hx; omega
  have Hx : Hid (x < W32 ^ 2) := hx
  clear hx
  go_enter Tryd.func99, Tryd.ntmps99
  have e0 : dg W32 x 0 = x % 4294967296 := by simp [dg, W32_val]
  have e1 : dg W32 x 1 = x / 4294967296 := by
    simp only [dg, W32_val, Nat.pow_one]; omega
  have hs : ∀ w : World, Slc (w.alloc (.cells #[.int .u32 ((x : Int) % 4294967296), .int .u32 ((x : Int) / 4294967296)] 58)) (some ⟨w.heap.size, 0, none⟩) 2 (dg W32 x) := fun w _ => by
    refine ⟨_, _, rfl, fun j hj => ?_⟩
    rw [World.cell?_alloc_at _ _ _ _ rfl]
    rcases Nat.lt_or_ge j 1 with h | h
    · obtain rfl : j = 0 := by omega
      simp [e0]
    · obtain rfl : j = 1 := by omega
      simp [e1]
  have HS : Hid (∀ w : World, Slc (w.alloc (.cells #[.int .u32 ((x : Int) % 4294967296), .int .u32 ((x : Int) / 4294967296)] 58)) (some ⟨w.heap.size, 0, none⟩) 2 (dg W32 x)) := hs
  clear e0 e1 hs
  go_wp2_with fail
  refine (Of_any _ _ _ x _ (by omega) (Nat.le_refl _) Hx.out (HS.out w)).mono ?_
  rintro e w' ⟨m, rfl, hm, hlen, rfl⟩
  go_wp2_with fail
  go_ret
  exact ⟨_, rfl, ⟨_, _, _, rfl, hm, hlen, (HS.out w).take (by omega)⟩, (Below.refl _ _).alloc (Nat.le_refl _) _⟩
end Go.Proofs.YtdinpeglclkjhaaDoor
