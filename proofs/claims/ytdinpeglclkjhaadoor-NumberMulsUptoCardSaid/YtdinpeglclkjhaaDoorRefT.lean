/- The natural numbers of the specification: NatSub. -/
import Derived.Test.YtdinpeglclkjhaaDoorRefS
namespace Go.Proofs.YtdinpeglclkjhaaDoor
open Go.RowKit Dg

/-- What is owed behind the k low digits. -/
def owed (x y k : Nat) : Nat := ((x - y) % B16 ^ k + y % B16 ^ k) / B16 ^ k
theorem owed_eq {x y k : Nat} (h : y ≤ x) : (x - y) % B16 ^ k + y % B16 ^ k = x % B16 ^ k + B16 ^ k * owed x y k := by
  have e : ((x - y) % B16 ^ k + y % B16 ^ k) % B16 ^ k = x % B16 ^ k := by rw [← Nat.add_mod, Nat.sub_add_cancel h]
  have h1 := Nat.mod_add_div ((x - y) % B16 ^ k + y % B16 ^ k) (B16 ^ k)
  rw [e] at h1
  exact h1.symm
theorem owed_le {x y k : Nat} : owed x y k ≤ 1 := by
  have hP : 0 < B16 ^ k := Nat.pow_pos B16_pos
  have h1 := Nat.mod_lt (x - y) hP
  have h2 := Nat.mod_lt y hP
  have h3 : ((x - y) % B16 ^ k + y % B16 ^ k) / B16 ^ k < 2 := Nat.div_lt_of_lt_mul (by omega)
  unfold owed
  omega
theorem sub16_step {x y k : Nat} (h : y ≤ x) : dg B16 (x - y) k + (owed x y k + dg B16 y k) = dg B16 x k + 65536 * owed x y (k + 1) := by
  have hP : 0 < B16 ^ k := Nat.pow_pos B16_pos
  have e1 := owed_eq (k := k) h
  have e2 := owed_eq (k := k + 1) h
  rw [mod_succ, mod_succ, mod_succ, Nat.pow_succ, Nat.mul_assoc] at e2
  have e3 : B16 ^ k * (dg B16 (x - y) k + (owed x y k + dg B16 y k)) = B16 ^ k * (dg B16 x k + B16 * owed x y (k + 1)) := by
    simp only [Nat.mul_add]
    omega
  exact Nat.eq_of_mul_eq_mul_left hP e3
theorem sub16_cases {d g o l o' : Nat} (hd : d < 65536) (hg : g < 65536) (ho : o' ≤ 1) (h : g + l = d + 65536 * o') : (d < l ∧ o' = 1 ∧ g = d + 65536 - l) ∨ (¬ d < l ∧ o' = 0 ∧ g = d - l) := by
  have _ := o
  rcases Nat.lt_or_ge d l with h1 | h1
  · left; refine ⟨h1, ?_, ?_⟩ <;> omega
  · right; refine ⟨by omega, ?_, ?_⟩ <;> omega
theorem owed_zero {x y : Nat} : owed x y 0 = 0 := by unfold owed; simp [Nat.mod_one]

def SubRel (w0 : World) (x y n1 : Nat) (v cv i : Value) (wr : World) : Prop := ∃ k c : Nat, i = .int .i64 k ∧ k ≤ n1 ∧ cv = .int .u32 c ∧ c = owed x y k ∧ Own wr w0.heap.size v k (dg B16 (x - y)) ∧ Below w0.heap.size w0 wr

set_option maxHeartbeats 4000000 in
set_option maxRecDepth 100000 in
theorem NatSub_any (va vb : Value) (x y : Nat) (w : World) (ha : Rep B16 w va x) (hb : Rep B16 w vb y) (hx : x < B16 ^ 1000000000) (hyx : y ≤ x) :
    Calls Tryd.prog 114 #[va, vb] w fun e w' => ∃ v, e = .returned v ∧ Rep B16 w' v (x - y) ∧ Below w.heap.size w w' := by
  obtain ⟨i0, hi, hz0, hz1, hz2⟩ := info_parts Tryd.infoU32
  obtain ⟨pa, ka, ca, rfl, hk1, hl1, hs1⟩ := ha
  obtain ⟨pb, kb, cb, rfl, hk2, hl2, hs2⟩ := hb
  have hb1 := hl1.le B16_pos hx
  have hb2 := hl2.le B16_pos (Nat.lt_of_le_of_lt hyx hx)
  have HA := hid (And.intro hl1 hs1)
  have HBb := hid (And.intro hl2 hs2)
  have HYX := hid hyx
  clear hx hl1 hs1 hl2 hs2 hyx
  have hmk : ∀ W : World, (Instr.makeSlice 32 (.int .i64 0) (.int .i64 (ka : Int))).run Tryd.prog W = .ok (.slice (some ⟨W.heap.size, 0, none⟩) 0 ka) (W.alloc (.cells (madeCells #[.int .u32 0] ka) 58)) := Tryd.mk0 ka (by omega)
  go_enter Tryd.func114, Tryd.ntmps114
  go_wp2_with fail
  clear hmk
  go_loopw [5, 6, 15] (fun v cv i wr => SubRel w x y ka v cv i wr) (fun _ _ i _ => ka - (intOf i).toNat)
  case atStart => exact ⟨0, 0, rfl, by omega, rfl, owed_zero.symm, own_made w _ ka (Nat.le_refl _) (by omega) _, (Below.refl _ _).alloc (Nat.le_refl _) _⟩
  case round =>
    obtain ⟨k, c, rfl, hk, rfl, hc, hown, hB⟩ := hrel
    by_cases hlt : k < ka
    · obtain ⟨b0, o0, rfl, hc0⟩ := HA.out.2.below hB (by omega)
      have hc1 := hc0 k hlt
      have hst := sub16_step (k := k) HYX.out
      rw [← hc] at hst
      have hcl : c ≤ 1 := by rw [hc]; exact owed_le
      have hd := dg_16 x k
      have hd2 := dg_16 y k
      obtain ⟨l, hl⟩ : ∃ l, l = c + dg B16 y k := ⟨_, rfl⟩
      rw [← hl] at hst
      have hcs := sub16_cases (o := c) hd (dg_16 (x - y) k) owed_le hst
      have hll : l ≤ 65536 := by omega
      have HL := hid hl
      clear hst hc0 hc hl
      obtain ⟨on, hon⟩ : ∃ on, on = owed x y (k + 1) := ⟨_, rfl⟩
      rw [← hon] at hcs
      obtain ⟨gd, hgd⟩ : ∃ gd, gd = dg B16 (x - y) k := ⟨_, rfl⟩
      rw [← hgd] at hcs
      have hsize := hB.size
      have hown1 := fun q hq => (World.ownsRow.lt hown q hq).1
      have HQ := hid (And.intro hown (And.intro hB (And.intro hown1 (And.intro hgd hon))))
      clear hown hB hown1 hgd hon
      by_cases hlt2 : k < kb
      · obtain ⟨b1, o1, rfl, hc2⟩ := HBb.out.2.below HQ.out.2.1 (by omega)
        have hc3 := hc2 k hlt2
        clear hc2
        generalize dg B16 x k = d at *
        generalize dg B16 y k = d2 at *
        have hu1 : IntKind.u32.wrap ((c : Int) + (d2 : Int)) = (l : Int) := by rw [IntKind.wrap_u32, HL.out]; omega
        have hcl2 : (c : Int) + (d2 : Int) = (l : Int) := by rw [HL.out]; omega
        rcases hcs with ⟨h1, rfl, h3⟩ | ⟨h1, rfl, h3⟩
        · have hdl : decide (d < l) = true := decide_eq_true h1
          have hu2 : IntKind.u32.wrap ((d : Int) + 65536) = (d : Int) + 65536 := by rw [IntKind.wrap_u32]; omega
          have hu3 : IntKind.u32.wrap ((d : Int) + 65536 - (l : Int)) = (gd : Int) := by rw [IntKind.wrap_u32, h3]; omega
          have hu4 : (d : Int) + 65536 - (l : Int) = (gd : Int) := by rw [h3]; omega
          have hgl : gd < 65536 := by omega
          clear h3
          have hal := (show wr.ownsRow w.heap.size 58 1 u5 k ((List.range k).map (fun j => Value.int .u32 (dg B16 (x - y) j : Nat))) from HQ.out.1).alloc (.cells #[.int .u32 (gd : Int)] 58)
          have HAL := hid hal
          clear hal
          go_wp2_with (first
            | (at_builtin; refine wpList_append_own _ rfl _ _ 32 rfl w.heap.size 58 i0 (.int .u32 0) 1 4 Tryd.underlying32 hi hz0 hz1 hz2 rfl (by decide) _ _ _ rfl HAL.out ⟨wr.heap.size, 0, none⟩ 1 1 [.int .u32 (gd : Int)] rfl rfl (cell_one_new _ _ _) (fun x hx => by simp at hx; subst hx; rfl) (by unfold maxLen; omega) (by omega) (by simp; omega) ?_; intro v' w3 hown' hgrow3 hnil3))
          go_roundw
          case rel =>
            refine ⟨k + 1, 1, by go_num, by omega, rfl, HQ.out.2.2.2.2, Own.push hown' (by rw [HQ.out.2.2.2.1]), ?_⟩
            exact (HQ.out.2.1.alloc hsize _).grown (show (wr.alloc _).grownBy w3 u5.ownBlock from hgrow3) (by rw [World.size_alloc]; omega) HQ.out.2.2.1
          case measure => simp [intOf]; omega
        · have hdl : decide (d < l) = false := decide_eq_false h1
          have hu3 : IntKind.u32.wrap ((d : Int) - (l : Int)) = (gd : Int) := by rw [IntKind.wrap_u32, h3]; omega
          have hu4 : (d : Int) - (l : Int) = (gd : Int) := by rw [h3]; omega
          have hgl : gd < 65536 := by omega
          clear h3
          have hal := (show wr.ownsRow w.heap.size 58 1 u5 k ((List.range k).map (fun j => Value.int .u32 (dg B16 (x - y) j : Nat))) from HQ.out.1).alloc (.cells #[.int .u32 (gd : Int)] 58)
          have HAL := hid hal
          clear hal
          go_wp2_with (first
            | (at_builtin; refine wpList_append_own _ rfl _ _ 32 rfl w.heap.size 58 i0 (.int .u32 0) 1 4 Tryd.underlying32 hi hz0 hz1 hz2 rfl (by decide) _ _ _ rfl HAL.out ⟨wr.heap.size, 0, none⟩ 1 1 [.int .u32 (gd : Int)] rfl rfl (cell_one_new _ _ _) (fun x hx => by simp at hx; subst hx; rfl) (by unfold maxLen; omega) (by omega) (by simp; omega) ?_; intro v' w3 hown' hgrow3 hnil3))
          go_roundw
          case rel =>
            refine ⟨k + 1, 0, by go_num, by omega, rfl, HQ.out.2.2.2.2, Own.push hown' (by rw [HQ.out.2.2.2.1]), ?_⟩
            exact (HQ.out.2.1.alloc hsize _).grown (show (wr.alloc _).grownBy w3 u5.ownBlock from hgrow3) (by rw [World.size_alloc]; omega) HQ.out.2.2.1
          case measure => simp [intOf]; omega
      · have hy0 : dg B16 y k = 0 := dg_zero' B16_pos HBb.out.1.1 (by omega)
        have hlc : l = c := by rw [HL.out, hy0, Nat.add_zero]
        subst hlc
        clear hy0 hd2
        generalize dg B16 x k = d at *
        rcases hcs with ⟨h1, rfl, h3⟩ | ⟨h1, rfl, h3⟩
        · have hdl : decide (d < l) = true := decide_eq_true h1
          have hu2 : IntKind.u32.wrap ((d : Int) + 65536) = (d : Int) + 65536 := by rw [IntKind.wrap_u32]; omega
          have hu3 : IntKind.u32.wrap ((d : Int) + 65536 - (l : Int)) = (gd : Int) := by rw [IntKind.wrap_u32, h3]; omega
          have hu4 : (d : Int) + 65536 - (l : Int) = (gd : Int) := by rw [h3]; omega
          have hgl : gd < 65536 := by omega
          clear h3
          have hal := (show wr.ownsRow w.heap.size 58 1 u5 k ((List.range k).map (fun j => Value.int .u32 (dg B16 (x - y) j : Nat))) from HQ.out.1).alloc (.cells #[.int .u32 (gd : Int)] 58)
          have HAL := hid hal
          clear hal
          go_wp2_with (first
            | (at_builtin; refine wpList_append_own _ rfl _ _ 32 rfl w.heap.size 58 i0 (.int .u32 0) 1 4 Tryd.underlying32 hi hz0 hz1 hz2 rfl (by decide) _ _ _ rfl HAL.out ⟨wr.heap.size, 0, none⟩ 1 1 [.int .u32 (gd : Int)] rfl rfl (cell_one_new _ _ _) (fun x hx => by simp at hx; subst hx; rfl) (by unfold maxLen; omega) (by omega) (by simp; omega) ?_; intro v' w3 hown' hgrow3 hnil3))
          go_roundw
          case rel =>
            refine ⟨k + 1, 1, by go_num, by omega, rfl, HQ.out.2.2.2.2, Own.push hown' (by rw [HQ.out.2.2.2.1]), ?_⟩
            exact (HQ.out.2.1.alloc hsize _).grown (show (wr.alloc _).grownBy w3 u5.ownBlock from hgrow3) (by rw [World.size_alloc]; omega) HQ.out.2.2.1
          case measure => simp [intOf]; omega
        · have hdl : decide (d < l) = false := decide_eq_false h1
          have hu3 : IntKind.u32.wrap ((d : Int) - (l : Int)) = (gd : Int) := by rw [IntKind.wrap_u32, h3]; omega
          have hu4 : (d : Int) - (l : Int) = (gd : Int) := by rw [h3]; omega
          have hgl : gd < 65536 := by omega
          clear h3
          have hal := (show wr.ownsRow w.heap.size 58 1 u5 k ((List.range k).map (fun j => Value.int .u32 (dg B16 (x - y) j : Nat))) from HQ.out.1).alloc (.cells #[.int .u32 (gd : Int)] 58)
          have HAL := hid hal
          clear hal
          go_wp2_with (first
            | (at_builtin; refine wpList_append_own _ rfl _ _ 32 rfl w.heap.size 58 i0 (.int .u32 0) 1 4 Tryd.underlying32 hi hz0 hz1 hz2 rfl (by decide) _ _ _ rfl HAL.out ⟨wr.heap.size, 0, none⟩ 1 1 [.int .u32 (gd : Int)] rfl rfl (cell_one_new _ _ _) (fun x hx => by simp at hx; subst hx; rfl) (by unfold maxLen; omega) (by omega) (by simp; omega) ?_; intro v' w3 hown' hgrow3 hnil3))
          go_roundw
          case rel =>
            refine ⟨k + 1, 0, by go_num, by omega, rfl, HQ.out.2.2.2.2, Own.push hown' (by rw [HQ.out.2.2.2.1]), ?_⟩
            exact (HQ.out.2.1.alloc hsize _).grown (show (wr.alloc _).grownBy w3 u5.ownBlock from hgrow3) (by rw [World.size_alloc]; omega) HQ.out.2.2.1
          case measure => simp [intOf]; omega
    · have hk' : k = ka := by omega
      subst hk'
      have hz : x - y < B16 ^ k := Nat.lt_of_le_of_lt (Nat.sub_le _ _) HA.out.1.1
      obtain ⟨p3, c3, rfl, hkc, hsl3⟩ := hown.slc
      have htr := hid (trim_any p3 k c3 (x - y) wr (by omega) hkc hz hsl3)
      have HF := hid (And.intro hsl3 hB)
      clear hown hsl3 hB hz hc
      go_wp2_with fail
      refine htr.out.mono ?_
      rintro e w' ⟨m, rfl, hm, hlen, rfl⟩
      clear htr
      go_wp2_with fail
      go_ret
      exact ⟨_, rfl, ⟨_, _, _, rfl, by omega, hlen, HF.out.1.take hm⟩, HF.out.2⟩
end Go.Proofs.YtdinpeglclkjhaaDoor
