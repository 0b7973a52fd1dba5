/- The check that every law makes: 1/2 + 1/3 is 5/6. -/
import Derived.Test.YtjnfnngobkjneaaGreatDoorNumX
namespace Go.Proofs.YtjnfnngobkjneaaGreatDoor
open Go.RowKit Dg

theorem large_small {n d : Nat} (hn : n < W32 ^ 3) (hd : d < W32 ^ 3) : large n d = false := by
  have h : W32 ^ 3 ≤ W32 ^ 256 := Nat.pow_le_pow_right W32_pos (by omega)
  rw [large_short (decide_eq_false (by omega))]
  exact big_small (Nat.lt_of_le_of_lt (Nat.div_le_self _ _) hn) (Nat.lt_of_le_of_lt (Nat.div_le_self _ _) (by unfold den1; split; exact (by decide); exact hd))
theorem fadd_awake : fadd (frac false 1 (den1 2)) (frac false 1 (den1 3)) = (false, 5, 6) := by decide +kernel
theorem ncode_awake : ncode 1 2 1 3 0 (false, 5, 6) = 0 := by
  unfold ncode ucode bcode
  rw [large_small (n := 1) (d := 2) (by decide) (by decide), large_small (n := 1) (d := 3) (by decide) (by decide), big_small (m := 5) (d := 6) (by decide) (by decide)]
  rfl
theorem cell_new (w : World) (v : Value) (t : Nat) : (w.alloc (.cells #[v] t)).cell? ⟨w.heap.size, 0, none⟩ = some v := by simp only [World.cell?, heap_alloc_new]; rfl
theorem cell_new2 (w : World) (o : Obj) (v : Value) (t : Nat) : ((w.alloc o).alloc (.cells #[v] t)).cell? ⟨w.heap.size + 1, 0, none⟩ = some v := by
  have h := cell_new (w.alloc o) v t
  rwa [World.size_alloc] at h
theorem cell_new3 (w : World) (o o' : Obj) (v : Value) (t : Nat) : (((w.alloc o).alloc o').alloc (.cells #[v] t)).cell? ⟨w.heap.size + 1 + 1, 0, none⟩ = some v := by
  have h := cell_new2 (w.alloc o) o' v t
  rwa [World.size_alloc] at h
theorem cell_new4 (w : World) (o o' o'' : Obj) (v : Value) (t : Nat) : ((((w.alloc o).alloc o').alloc o'').alloc (.cells #[v] t)).cell? ⟨w.heap.size + 1 + 1 + 1, 0, none⟩ = some v := by
  have h := cell_new3 (w.alloc o) o' o'' v t
  rwa [World.size_alloc] at h
theorem Raw.alloc {w : World} {v : Value} {x : Nat} (h : Raw w v x) (o : Obj) : Raw (w.alloc o) v x := h.below ((Below.refl _ _).alloc (Nat.le_refl _) o)
theorem raw_one {w : World} {B x : Nat} (hx : x < W32) (h : w.cell? ⟨B, 0, none⟩ = some (.int .u32 (x : Nat))) : Raw w (.slice (some ⟨B, 0, none⟩) 1 1) x := by
  refine ⟨_, 1, 1, rfl, Nat.le_refl _, by omega, by rw [Nat.pow_one]; exact hx, fun _ => ⟨B, 0, rfl, fun j hj => ?_⟩⟩
  obtain rfl : j = 0 := by omega
  rw [show dg W32 x 0 = x by unfold dg; rw [Nat.pow_zero, Nat.div_one]; exact Nat.mod_eq_of_lt hx]
  exact h
/-- One word: what lies there. -/
theorem one_word {w : World} {p : Option Addr} {k cap x : Nat} (h : Rep W32 w (.slice p k cap) x) (h0 : x ≠ 0) (hx : x < W32) : k = 1 ∧ ∃ b o, p = some ⟨b, o, none⟩ ∧ w.cell? ⟨b, o, none⟩ = some (.int .u32 (x : Nat)) ∧ 0 < cap := by
  obtain ⟨p', k', cap', hv, hk, hl, hs⟩ := h
  simp only [Value.slice.injEq] at hv
  obtain ⟨rfl, h2, h3⟩ := hv
  have hk1 : k' ≤ 1 := hl.le W32_pos (by rw [Nat.pow_one]; exact hx)
  have hk0 : k' ≠ 0 := fun h => h0 ((hl.zero_iff W32_pos).2 h)
  obtain rfl : k' = 1 := by omega
  obtain ⟨b, o, hp, hc⟩ := hs (by omega)
  have hc0 := hc 0 (by omega)
  rw [show dg W32 x 0 = x by unfold dg; rw [Nat.pow_zero, Nat.div_one]; exact Nat.mod_eq_of_lt hx] at hc0
  exact ⟨by omega, b, o, hp, hc0, by omega⟩

set_option maxHeartbeats 4000000 in
set_option maxRecDepth 100000 in
theorem awake_any (w : World) (ht : TabOk w) :
    Calls Tryz.prog 10 #[] w fun e w' => e = .returned (.bool true) ∧ Below w.heap.size w w' := by
  have hcall : Hid (∀ W v y, ARep W v false 1 2 → ARep W y false 1 3 → TabOk W → Calls Tryz.prog 17 #[v, y] W fun e w' => Below W.heap.size W w' ∧ ∃ sg pa ka ca pb kb cb, e = .returned (.tuple #[.agg #[.bool sg, .slice pa ka ca, .slice pb kb cb], .int .i64 0]) ∧ Hid (FNorm w' (.agg #[.bool sg, .slice pa ka ca, .slice pb kb cb]) (false, 5, 6))) := by
    refine hid fun W v y h1 h2 h3 => (nAdd_any v false 1 2 y false 1 3 W h1 h2 h3).mono ?_
    rintro e w' ⟨hB, hR⟩
    rw [fadd_awake, ncode_awake] at hR
    refine ⟨hB, ?_⟩
    rcases hR with ⟨h0, _⟩ | ⟨_, h⟩
    · exact absurd rfl h0
    · exact h
  have HT := hid ht
  clear ht
  go_enter Tryz.func10, Tryz.ntmps10
  go_wp2_with fail
  have hB0 : Below w.heap.size w ((((w.alloc (.cells #[.int .u32 1] 58)).alloc (.cells #[.int .u32 2] 58)).alloc (.cells #[.int .u32 1] 58)).alloc (.cells #[.int .u32 3] 58)) := below_alloc4 w _ _ _ _
  have hX : ARep ((((w.alloc (.cells #[.int .u32 1] 58)).alloc (.cells #[.int .u32 2] 58)).alloc (.cells #[.int .u32 1] 58)).alloc (.cells #[.int .u32 3] 58)) (.agg #[.bool false, .slice (some ⟨w.heap.size, 0, none⟩) 1 1, .slice (some ⟨w.heap.size + 1, 0, none⟩) 1 1]) false 1 2 :=
    ⟨_, _, rfl, (((raw_one (x := 1) (by decide) (cell_new w _ _)).alloc _).alloc _).alloc _, ((raw_one (x := 2) (by decide) (cell_new2 w _ _ _)).alloc _).alloc _⟩
  have hY : ARep ((((w.alloc (.cells #[.int .u32 1] 58)).alloc (.cells #[.int .u32 2] 58)).alloc (.cells #[.int .u32 1] 58)).alloc (.cells #[.int .u32 3] 58)) (.agg #[.bool false, .slice (some ⟨w.heap.size + 1 + 1, 0, none⟩) 1 1, .slice (some ⟨w.heap.size + 1 + 1 + 1, 0, none⟩) 1 1]) false 1 3 :=
    ⟨_, _, rfl, (raw_one (x := 1) (by decide) (cell_new3 w _ _ _ _)).alloc _, raw_one (x := 3) (by decide) (cell_new4 w _ _ _ _ _)⟩
  generalize (((w.alloc (.cells #[.int .u32 1] 58)).alloc (.cells #[.int .u32 2] 58)).alloc (.cells #[.int .u32 1] 58)).alloc (.cells #[.int .u32 3] 58) = W0 at *
  refine (hcall.out W0 _ _ hX hY (HT.out.below hB0)).mono ?_
  rintro e w1 ⟨hB1, sg, pa, ka, ca, pb, kb, cb, rfl, hF⟩
  obtain ⟨vn, vd, hv, hn, hd⟩ := hF.out
  injection hv with hv
  have hv0 := congrArg (fun a => a[1]?) hv
  have hv1 := congrArg (fun a => a[2]?) hv
  simp only [List.getElem?_toArray, List.getElem?_cons_succ, List.getElem?_cons_zero, Option.some.injEq] at hv0 hv1
  subst hv0 hv1
  obtain ⟨rfl, b0, o0, rfl, c0, hc0⟩ := one_word hn (by decide) (by decide)
  obtain ⟨rfl, b1, o1, rfl, c1, hc1⟩ := one_word hd (by decide) (by decide)
  have HB := hid (hB0.trans (hB1.mono hB0.size))
  clear hX hY hB0 hB1 hn hd hv hF hcall
  go_upto_region 2 with fail
  have hV := Var3.alloc w1 (x := .bool sg) (y := .slice (some ⟨b0, o0, none⟩) 1 ca) (z := .slice (some ⟨b1, o1, none⟩) 1 cb) 24 trivial trivial trivial
  have hal := (Below.refl w1.heap.size w1).alloc (Nat.le_refl _) (.cells #[.bool sg, .slice (some ⟨b0, o0, none⟩) 1 ca, .slice (some ⟨b1, o1, none⟩) 1 cb] 24)
  have c0' := hal.cell (p := ⟨b0, o0, none⟩) (World.block_lt_of_cell? _ _ c0)
  have c1' := hal.cell (p := ⟨b1, o1, none⟩) (World.block_lt_of_cell? _ _ c1)
  rw [c0] at c0'
  rw [c1] at c1'
  have HB2 := hid (HB.out.trans (hal.mono HB.out.size))
  clear c0 c1 hal HB
  generalize w1.alloc (.cells #[.bool sg, .slice (some ⟨b0, o0, none⟩) 1 ca, .slice (some ⟨b1, o1, none⟩) 1 cb] 24) = W2 at *
  generalize w1.heap.size = X at *
  obtain ⟨x0, x1, x2, _⟩ := hV.cells
  clear hV
  go_wp2_with fail
  go_ret
  exact ⟨rfl, HB2.out⟩
end Go.Proofs.YtjnfnngobkjneaaGreatDoor
