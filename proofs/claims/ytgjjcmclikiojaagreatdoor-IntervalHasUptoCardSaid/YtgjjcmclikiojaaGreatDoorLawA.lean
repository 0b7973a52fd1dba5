/- The check that every law makes: 1/2 + 1/3 is 5/6. -/
import Derived.Test.YtgjjcmclikiojaaGreatDoorNumX
namespace Go.Proofs.YtgjjcmclikiojaaGreatDoor
open Go.RowKit Dg

theorem large_small {n d : Nat} (hn : n < W32 ^ 3) (hd : d < W32 ^ 3) : large n d = false := by
  have h : W32 ^ 3 ≤ W32 ^ 256 := Nat.pow_le_pow_right W32_pos (by omega)
  rw [large_short (decide_eq_false (by omega))]
  exact big_small (Nat.lt_of_le_of_lt (Nat.div_le_self _ _) hn) (Nat.lt_of_le_of_lt (Nat.div_le_self _ _) (by unfold den1; split; exact (by decide); exact hd))
theorem fadd_awake : fadd (frac false 1 (den1 2)) (frac false 1 (den1 3)) = (false, 5, 6) := by decide +kernel
theorem ncode_awake : ncode 1 2 1 3 0 (false, 5, 6) = 0 := by
  unfold ncode ucode bcode
  rw [large_small (n := 1) (d := 2) (by decide) (by decide), large_small (n := 1) (d := 3) (by decide) (by decide), big_small (m := 5) (d := 6) (by decide) (by decide)]
  rfl
theorem cell_new (w : World) (v : Value) (t : Nat) : (w.alloc (.cells #[v] t)).cell? ⟨w.heap.size, 0, none⟩ = some v := by simp only [World.cell?, heap_alloc_new]; rfl
theorem cell_new2 (w : World) (o : Obj) (v : Value) (t : Nat) : ((w.alloc o).alloc (.cells #[v] t)).cell? ⟨w.heap.size + 1, 0, none⟩ = some v := by
  have h := cell_new (w.alloc o) v t
  rwa [World.size_alloc] at h
theorem cell_new3 (w : World) (o o' : Obj) (v : Value) (t : Nat) : (((w.alloc o).alloc o').alloc (.cells #[v] t)).cell? ⟨w.heap.size + 1 + 1, 0, none⟩ = some v := by
  have h := cell_new2 (w.alloc o) o' v t
  rwa [World.size_alloc] at h
theorem cell_new4 (w : World) (o o' o'' : Obj) (v : Value) (t : Nat) : ((((w.alloc o).alloc o').alloc o'').alloc (.cells #[v] t)).cell? ⟨w.heap.size + 1 + 1 + 1, 0, none⟩ = some v := by
  have h := cell_new3 (w.alloc o) o' o'' v t
  rwa [World.size_alloc] at h
theorem Raw.alloc {w : World} {v : Value} {x : Nat} (h : Raw w v x) (o : Obj) : Raw (w.alloc o) v x := h.below ((Below.refl _ _).alloc (Nat.le_refl _) o)
theorem raw_one {w : World} {B x : Nat} (hx : x < W32) (h : w.cell? ⟨B, 0, none⟩ = some (.int .u32 (x : Nat))) : Raw w (.slice (some ⟨B, 0, none⟩) 1 1) x := by
  refine ⟨_, 1, 1, rfl, Nat.le_refl _, by omega, by rw [Nat.pow_one]; exact hx, fun _ => ⟨B, 0, rfl, fun j hj => ?_⟩⟩
  obtain rfl : j = 0 := by omega
  rw [show dg W32 x 0 = x by unfold dg; rw [Nat.pow_zero, Nat.div_one]; exact Nat.mod_eq_of_lt hx]
  exact h
/-- One word: what lies there. -/
theorem one_word {w : World} {p : Option Addr} {k cap x : Nat} (h : Rep W32 w (.slice p k cap) x) (h0 : x ≠ 0) (hx : x < W32) : k = 1 ∧ ∃ b o, p = some ⟨b, o, none⟩ ∧ w.cell? ⟨b, o, none⟩ = some (.int .u32 (x : Nat)) ∧ 0 < cap := by
  obtain ⟨p', k', cap', hv, hk, hl, hs⟩ := h
  simp only [Value.slice.injEq] at hv
  obtain ⟨rfl, h2, h3⟩ := hv
  have hk1 : k' ≤ 1 := hl.le W32_pos (by rw [Nat.pow_one]; exact hx)
  have hk0 : k' ≠ 0 := fun h => h0 ((hl.zero_iff W32_pos).2 h)
  obtain rfl : k' = 1 := by omega
  obtain ⟨b, o, hp, hc⟩ := hs (by omega)
  have hc0 := hc 0 (by omega)
  rw [show dg W32 x 0 = x by unfold dg; rw [Nat.pow_zero, Nat.div_one]; exact Nat.mod_eq_of_lt hx] at hc0
  exact ⟨by omega, b, o, hp, hc0, by omega⟩

end Go.Proofs.YtgjjcmclikiojaaGreatDoor
