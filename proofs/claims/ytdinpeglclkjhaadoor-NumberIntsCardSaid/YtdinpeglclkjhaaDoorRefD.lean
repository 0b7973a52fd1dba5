/- The natural numbers of the specification: words, list. -/
import Derived.Test.YtdinpeglclkjhaaDoorRefC
namespace Go.Proofs.YtdinpeglclkjhaaDoor
open Go.RowKit Dg

theorem pow_two_k (k : Nat) : W32 ^ k = B16 ^ (2 * k) := by rw [Nat.pow_mul]; rfl
theorem dg_lo (x k : Nat) : dg B16 x (2 * k) = dg W32 x k % 65536 := by
  unfold dg
  rw [← pow_two_k, show W32 = 65536 * 65536 from rfl, show B16 = 65536 from rfl, Nat.mod_mul_left_mod]
theorem dg_hi (x k : Nat) : dg B16 x (2 * k + 1) = dg W32 x k / 65536 := by
  unfold dg
  rw [Nat.pow_succ, ← pow_two_k, ← Nat.div_div_eq_div_mul, show W32 = 65536 * 65536 from rfl, show B16 = 65536 from rfl, Nat.mod_mul_right_div_self]
theorem dg_word (x k : Nat) : dg W32 x k = dg B16 x (2 * k) + dg B16 x (2 * k + 1) * 65536 := by
  rw [dg_lo, dg_hi]; omega

theorem Own.push2 {w : World} {base : Nat} {v : Value} {n : Nat} {f : Nat → Nat} {z y : Int} (h : w.ownsRow base 58 1 v (n + 2) ((List.range n).map (fun j => Value.int .u32 (f j : Nat)) ++ [.int .u32 z, .int .u32 y])) (hz : z = (f n : Nat)) (hy : y = (f (n + 1) : Nat)) : Own w base v (n + 2) f := by
  unfold Own; rw [List.range_succ, List.range_succ, List.map_append, List.map_append, List.map_singleton, List.map_singleton, List.append_assoc, ← hz, ← hy]; exact h

def WRel (w0 : World) (x n : Nat) (v i : Value) (wr : World) : Prop := ∃ k : Nat, i = .int .i64 k ∧ k ≤ n ∧ Own wr w0.heap.size v (2 * k) (dg B16 x) ∧ Below w0.heap.size w0 wr

set_option maxHeartbeats 1000000 in
set_option maxRecDepth 100000 in
theorem words16_any (p : Option Addr) (n cap x : Nat) (w : World) (hn : n ≤ 1000000000000) (_hnc : n ≤ cap) (hx : x < W32 ^ n) (hs : Slc w p n (dg W32 x)) :
    Calls Tryd.prog 55 #[.slice p n cap] w fun e w' => ∃ v, e = .returned v ∧ Rep B16 w' v x ∧ Below w.heap.size w w' := by
  obtain ⟨i0, hi, hz0, hz1, hz2⟩ := info_parts Tryd.infoU32
  have Hx := hid (And.intro hx hs)
  clear hx hs
  go_enter Tryd.func55, Tryd.ntmps55
  go_wp2_with fail
  go_loopw [3, 8] (fun v i wr => WRel w x n v i wr) (fun _ i _ => n - (intOf i).toNat)
  case atStart => exact ⟨0, rfl, by omega, Own.nil _ _ _, Below.refl _ _⟩
  case round =>
    obtain ⟨k, rfl, hk, hown, hB⟩ := hrel
    by_cases hlt : k < n
    · have hsl := Hx.out.2.below hB
      obtain ⟨b0, o0, rfl, hc0⟩ := hsl (by omega)
      have hc1 := hc0 k hlt
      have hd := dg_u32 x k
      have hlo := dg_lo x k
      have hhi := dg_hi x k
      generalize dg W32 x k = d at *
      have hsize := hB.size
      have hown1 := fun q hq => (World.ownsRow.lt hown q hq).1
      have hal := (show wr.ownsRow w.heap.size 58 1 u3 (2 * k) ((List.range (2 * k)).map (fun j => Value.int .u32 (dg B16 x j : Nat))) from hown).alloc (.cells #[.int .u32 ((d : Int) % 65536), .int .u32 ((d : Int) / 65536)] 58)
      have HA := hid (And.intro hal (And.intro hB (And.intro hown1 (And.intro hlo hhi))))
      have Hbl := hid (World.news_of_block (heap_alloc_new wr (.cells #[.int .u32 ((d : Int) % 65536), .int .u32 ((d : Int) / 65536)] 58)))
      clear hal hown hB hown1 hlo hhi hsl hc0
      go_wp2_with (first
        | (at_builtin; refine wpList_append_own _ rfl _ _ 32 rfl w.heap.size 58 i0 (.int .u32 0) 1 4 Tryd.underlying32 hi hz0 hz1 hz2 rfl (by decide) _ _ _ rfl HA.out.1 ⟨wr.heap.size, 0, none⟩ 2 2 [.int .u32 ((d : Int) % 65536), .int .u32 ((d : Int) / 65536)] rfl rfl Hbl.out (fun x hx => by simp at hx; rcases hx with rfl | rfl <;> rfl) (by unfold maxLen; omega) (by omega) (by simp; omega) ?_; intro v' w3 hown' hgrow3 hnil3))
      go_roundw
      case rel =>
        have hp : Own w3 w.heap.size v' (2 * k + 2) (dg B16 x) := Own.push2 (n := 2 * k) hown' (by rw [HA.out.2.2.2.1]; simp) (by rw [HA.out.2.2.2.2]; simp)
        refine ⟨k + 1, by go_num, by omega, hp, ?_⟩
        exact (HA.out.2.1.alloc hsize _).grown (show (wr.alloc _).grownBy w3 u3.ownBlock from hgrow3) (by rw [World.size_alloc]; omega) HA.out.2.2.1
      case measure => simp [intOf]; omega
    · have hk' : k = n := by omega
      subst hk'
      obtain ⟨p', cap', rfl, hkc, hsl⟩ := hown.slc
      have HF := hid (And.intro hsl hB)
      have hx' : x < B16 ^ (2 * k) := by rw [← pow_two_k]; exact Hx.out.1
      have htr := hid (trim_any p' (2 * k) cap' x wr (by omega) hkc hx' hsl)
      clear hown hsl hB hx'
      go_wp2_with fail
      refine htr.out.mono ?_
      rintro e w' ⟨m, rfl, hm, hlen, rfl⟩
      go_wp2_with fail
      go_ret
      exact ⟨_, rfl, ⟨_, _, _, rfl, by omega, hlen, HF.out.1.take hm⟩, HF.out.2⟩

def LRel (w0 : World) (x n : Nat) (v i : Value) (wr : World) : Prop := ∃ k : Nat, i = .int .i64 (2 * k : Nat) ∧ 2 * k ≤ n + 1 ∧ Own wr w0.heap.size v k (dg W32 x) ∧ Below w0.heap.size w0 wr

theorem list_len {x n k : Nat} (h : Len B16 x n) (h1 : n ≤ 2 * k) (h2 : 2 * k ≤ n + 1) : Len W32 x k := by
  constructor
  · rw [pow_two_k]; exact Nat.lt_of_lt_of_le h.1 (Nat.pow_le_pow_right B16_pos h1)
  · intro hk
    rw [pow_two_k]
    exact Nat.le_trans (Nat.pow_le_pow_right B16_pos (show 2 * (k - 1) ≤ n - 1 by omega)) (h.2 (by omega))

set_option maxHeartbeats 1000000 in
set_option maxRecDepth 100000 in
theorem list_any (va : Value) (x : Nat) (w : World) (ha : Rep B16 w va x) (hx : x < B16 ^ 1000000000) :
    Calls Tryd.prog 57 #[va] w fun e w' => ∃ v, e = .returned v ∧ Rep W32 w' v x ∧ Below w.heap.size w w' := by
  obtain ⟨i0, hi, hz0, hz1, hz2⟩ := info_parts Tryd.infoU32
  obtain ⟨p, n, cap, rfl, hnc, hl, hs⟩ := ha
  have hn := hl.le B16_pos hx
  have Hx := hid (And.intro hl hs)
  clear hx hs hl
  go_enter Tryd.func57, Tryd.ntmps57
  go_wp2_with fail
  go_loopw [3, 4] (fun v i wr => LRel w x n v i wr) (fun _ i _ => n + 1 - (intOf i).toNat)
  case atStart => exact ⟨0, rfl, by omega, Own.nil _ _ _, Below.refl _ _⟩
  case round =>
    obtain ⟨k, rfl, hk, hown, hB⟩ := hrel
    have hsize := hB.size
    by_cases hlt : 2 * k < n
    · have hsl := Hx.out.2.below hB
      obtain ⟨b0, o0, rfl, hc0⟩ := hsl (by omega)
      have hc1 := hc0 (2 * k) hlt
      have hd := dg_16 x (2 * k)
      have he := dg_16 x (2 * k + 1)
      have hw := dg_word x k
      have hown1 := fun q hq => (World.ownsRow.lt hown q hq).1
      by_cases hlt2 : 2 * k + 1 < n
      · have hc2 := hc0 (2 * k + 1) hlt2
        generalize dg B16 x (2 * k) = d at *
        generalize dg B16 x (2 * k + 1) = f at *
        have hal := (show wr.ownsRow w.heap.size 58 1 u3 k ((List.range k).map (fun j => Value.int .u32 (dg W32 x j : Nat))) from hown).alloc (.cells #[.int .u32 ((d : Int) + (f : Int) * 65536)] 58)
        have HA := hid (And.intro hal (And.intro hB (And.intro hown1 hw)))
        clear hal hown hB hown1 hw hsl hc0
        go_wp2_with (first
          | (at_builtin; refine wpList_append_own _ rfl _ _ 22 rfl w.heap.size 58 i0 (.int .u32 0) 1 4 Tryd.underlying22 hi hz0 hz1 hz2 rfl (by decide) _ _ _ rfl HA.out.1 ⟨wr.heap.size, 0, none⟩ 1 1 [.int .u32 ((d : Int) + (f : Int) * 65536)] rfl rfl (cell_one_new _ _ _) (fun x hx => by simp at hx; subst hx; rfl) (by unfold maxLen; omega) (by omega) (by simp; omega) ?_; intro v' w3 hown' hgrow3 hnil3))
        have hp : Own w3 w.heap.size v' (k + 1) (dg W32 x) := Own.push (n := k) hown' (by rw [HA.out.2.2.2]; simp)
        refine ⟨⟨k + 1, congrArg (Value.int .i64) (by omega), by omega, hp, ?_⟩, by simp only [intOf]; omega⟩
        exact (HA.out.2.1.alloc hsize _).grown (show (wr.alloc _).grownBy w3 u3.ownBlock from hgrow3) (by rw [World.size_alloc]; omega) HA.out.2.2.1
      · have h0 : dg B16 x (2 * k + 1) = 0 := dg_zero' B16_pos Hx.out.1.1 (by omega)
        rw [h0, Nat.zero_mul, Nat.add_zero] at hw
        clear h0 he
        generalize dg B16 x (2 * k) = d at *
        have hal := (show wr.ownsRow w.heap.size 58 1 u3 k ((List.range k).map (fun j => Value.int .u32 (dg W32 x j : Nat))) from hown).alloc (.cells #[.int .u32 (d : Int)] 58)
        have HA := hid (And.intro hal (And.intro hB (And.intro hown1 hw)))
        clear hal hown hB hown1 hw hsl hc0
        go_wp2_with (first
          | (at_builtin; refine wpList_append_own _ rfl _ _ 22 rfl w.heap.size 58 i0 (.int .u32 0) 1 4 Tryd.underlying22 hi hz0 hz1 hz2 rfl (by decide) _ _ _ rfl HA.out.1 ⟨wr.heap.size, 0, none⟩ 1 1 [.int .u32 (d : Int)] rfl rfl (cell_one_new _ _ _) (fun x hx => by simp at hx; subst hx; rfl) (by unfold maxLen; omega) (by omega) (by simp; omega) ?_; intro v' w3 hown' hgrow3 hnil3))
        have hp : Own w3 w.heap.size v' (k + 1) (dg W32 x) := Own.push (n := k) hown' (by rw [HA.out.2.2.2])
        refine ⟨⟨k + 1, congrArg (Value.int .i64) (by omega), by omega, hp, ?_⟩, by simp only [intOf]; omega⟩
        exact (HA.out.2.1.alloc hsize _).grown (show (wr.alloc _).grownBy w3 u3.ownBlock from hgrow3) (by rw [World.size_alloc]; omega) HA.out.2.2.1
    · obtain ⟨p', cap', rfl, hkc, hsl⟩ := hown.slc
      have HF := hid (And.intro (show Rep W32 wr (.slice p' k cap') x from ⟨p', k, cap', rfl, hkc, list_len Hx.out.1 (by omega) hk, hsl⟩) hB)
      clear hown hsl hB
      go_wp2_with fail
      go_ret
      exact ⟨_, rfl, HF.out.1, HF.out.2⟩
end Go.Proofs.YtdinpeglclkjhaaDoor
