/- The natural numbers of the specification: NatAdd, NatSub. -/
import Derived.Test.YtdinpeglclkjhaaDoorRefR
namespace Go.Proofs.YtdinpeglclkjhaaDoor
open Go.RowKit Dg

theorem add16_step {x y k c : Nat} (hc : c = (x % B16 ^ k + y % B16 ^ k) / B16 ^ k) :
    c ≤ 1 ∧ dg B16 (x + y) k = (dg B16 x k + c + dg B16 y k) % 65536 ∧ (x % B16 ^ (k + 1) + y % B16 ^ (k + 1)) / B16 ^ (k + 1) = (dg B16 x k + c + dg B16 y k) / 65536 := by
  have hP : 0 < B16 ^ k := Nat.pow_pos B16_pos
  have e1 : x % B16 ^ (k + 1) + y % B16 ^ (k + 1) = (x % B16 ^ k + y % B16 ^ k) + B16 ^ k * (dg B16 x k + dg B16 y k) := by
    rw [mod_succ, mod_succ, Nat.mul_add]
    omega
  have e2 : (x % B16 ^ (k + 1) + y % B16 ^ (k + 1)) / B16 ^ k = dg B16 x k + c + dg B16 y k := by
    rw [e1, Nat.add_mul_div_left _ _ hP, ← hc]
    omega
  refine ⟨?_, ?_, ?_⟩
  · rw [hc]
    have h1 := Nat.mod_lt x hP
    have h2 := Nat.mod_lt y hP
    have h3 : (x % B16 ^ k + y % B16 ^ k) / B16 ^ k < 2 := Nat.div_lt_of_lt_mul (by omega)
    omega
  · rw [← e2]
    have e3 : x + y = (x % B16 ^ (k + 1) + y % B16 ^ (k + 1)) + B16 ^ (k + 1) * (x / B16 ^ (k + 1) + y / B16 ^ (k + 1)) := by
      have h1 := Nat.mod_add_div x (B16 ^ (k + 1))
      have h2 := Nat.mod_add_div y (B16 ^ (k + 1))
      rw [Nat.mul_add]
      omega
    unfold dg
    rw [show 65536 = B16 from rfl]
    have hdiv : (x + y) / B16 ^ k = (x % B16 ^ (k + 1) + y % B16 ^ (k + 1)) / B16 ^ k + B16 * (x / B16 ^ (k + 1) + y / B16 ^ (k + 1)) := by
      rw [e3, Nat.pow_succ, Nat.mul_assoc (B16 ^ k), Nat.add_mul_div_left _ _ hP]
    rw [hdiv, Nat.add_mul_mod_self_left]
  · have e4 := Nat.div_div_eq_div_mul (x % B16 ^ (k + 1) + y % B16 ^ (k + 1)) (B16 ^ k) B16
    rw [← Nat.pow_succ] at e4
    rw [← e4, e2]
    rfl

def AddRel (w0 : World) (x y n1 : Nat) (v cv i : Value) (wr : World) : Prop := ∃ k c : Nat, i = .int .i64 k ∧ k ≤ n1 ∧ cv = .int .u32 c ∧ c = (x % B16 ^ k + y % B16 ^ k) / B16 ^ k ∧ Own wr w0.heap.size v k (dg B16 (x + y)) ∧ Below w0.heap.size w0 wr

set_option maxHeartbeats 4000000 in
set_option maxRecDepth 100000 in
theorem NatAdd_any (va vb : Value) (x y : Nat) (w : World) (ha : Rep B16 w va x) (hb : Rep B16 w vb y) (hx : x < B16 ^ 1000000000) (hy : y < B16 ^ 1000000000) :
    Calls Tryd.prog 113 #[va, vb] w fun e w' => ∃ v, e = .returned v ∧ Rep B16 w' v (x + y) ∧ Below w.heap.size w w' := by
  obtain ⟨i0, hi, hz0, hz1, hz2⟩ := info_parts Tryd.infoU32
  obtain ⟨p1, k1, c1, rfl, hk1, hl1, hs1⟩ := ha
  obtain ⟨p2, k2, c2, rfl, hk2, hl2, hs2⟩ := hb
  have hb1 := hl1.le B16_pos hx
  have hb2 := hl2.le B16_pos hy
  clear hx hy
  obtain ⟨S0, hS0⟩ : ∃ S, S = x + y := ⟨_, rfl⟩
  rw [← hS0]
  have HR1 := hid (And.intro hl1 hs1)
  have HR2 := hid (And.intro hl2 hs2)
  clear hl1 hs1 hl2 hs2
  go_enter Tryd.func113, Tryd.ntmps113
  go_upto_if 13 with fail
  go_cut [0, 1] from 14 to 15 (fun va vb wx => wx = w ∧ ∃ pa ka ca pb kb cb X Y, va = .slice pa ka ca ∧ vb = .slice pb kb cb ∧ kb ≤ ka ∧ ka ≤ 1000000000 ∧ ka ≤ ca ∧ kb ≤ cb ∧ X + Y = S0 ∧ Hid (Len B16 X ka ∧ Slc w pa ka (dg B16 X)) ∧ Hid (Len B16 Y kb ∧ Slc w pb kb (dg B16 Y)))
  case first =>
    by_cases h : k1 < k2
    · have hd : decide ((k1 : Int) < (k2 : Int)) = true := decide_eq_true (by omega)
      go_wp2_with fail
      go_meet
      case rel => exact ⟨rfl, _, _, _, _, _, _, y, x, rfl, rfl, by omega, hb2, hk2, hk1, by rw [hS0, Nat.add_comm], HR2, HR1⟩
    · have hd : decide ((k1 : Int) < (k2 : Int)) = false := decide_eq_false (by omega)
      go_wp2_with fail
      go_meet
      case rel => exact ⟨rfl, _, _, _, _, _, _, x, y, rfl, rfl, by omega, hb1, hk1, hk2, hS0.symm, HR1, HR2⟩
  case rest =>
    obtain ⟨hwc, pa, ka, ca, pb, kb, cb, X, Y, rfl, rfl, hkk, hka, hca, hcb, hXY, HA, HBb⟩ := hcut
    subst hwc
    subst hXY
    clear hS0 HR1 HR2 hk1 hk2 hb1 hb2
    have hmk : ∀ W : World, (Instr.makeSlice 32 (.int .i64 0) (.int .i64 ((ka : Int) + 1))).run Tryd.prog W = .ok (.slice (some ⟨W.heap.size, 0, none⟩) 0 (ka + 1)) (W.alloc (.cells (madeCells #[.int .u32 0] (ka + 1)) 58)) := Tryd.mk0 (ka + 1) (by omega)
    go_wp2_with fail
    clear hmk
    go_loopw [5, 6, 22] (fun v cv i wr => AddRel wc X Y ka v cv i wr) (fun _ _ i _ => ka - (intOf i).toNat)
    case atStart => exact ⟨0, 0, rfl, by omega, rfl, by simp [Nat.mod_one], own_made wc _ (ka + 1) (Nat.le_refl _) (by omega) _, (Below.refl _ _).alloc (Nat.le_refl _) _⟩
    case round =>
      obtain ⟨k, c, rfl, hk, rfl, hc, hown, hB⟩ := hrel
      by_cases hlt : k < ka
      · obtain ⟨b0, o0, rfl, hc0⟩ := HA.out.2.below hB (by omega)
        have hc1 := hc0 k hlt
        obtain ⟨q1, q2, q3⟩ := add16_step hc
        have hd := dg_16 X k
        have hd2 := dg_16 Y k
        by_cases hlt2 : k < kb
        · obtain ⟨b1, o1, rfl, hc2⟩ := HBb.out.2.below hB (by omega)
          have hc3 := hc2 k hlt2
          have HQ := hid (And.intro q2 q3)
          clear q2 q3 hc0 hc hc2
          generalize dg B16 X k = d at *
          generalize dg B16 Y k = d2 at *
          have hu1 : IntKind.u32.wrap ((d : Int) + (c : Int)) = (d : Int) + c := by rw [IntKind.wrap_u32]; omega
          have hu2 : IntKind.u32.wrap ((d : Int) + (c : Int) + (d2 : Int)) = ((d + c + d2 : Nat) : Int) := by rw [IntKind.wrap_u32]; omega
          have hcs : (d : Int) + (c : Int) + (d2 : Int) = ((d + c + d2 : Nat) : Int) := by omega
          have hS : d + c + d2 < 4294967296 := by omega
          generalize d + c + d2 = S at *
          have hsize := hB.size
          have hown1 := fun q hq => (World.ownsRow.lt hown q hq).1
          have hal := (show wr.ownsRow wc.heap.size 58 1 u5 k ((List.range k).map (fun j => Value.int .u32 (dg B16 (X + Y) j : Nat))) from hown).alloc (.cells #[.int .u32 ((S : Int) % 65536)] 58)
          have HQ2 := hid (And.intro hal (And.intro hB (And.intro hown1 HQ.out)))
          clear hal hown hB hown1
          go_wp2_with (first
            | (at_builtin; refine wpList_append_own _ rfl _ _ 32 rfl wc.heap.size 58 i0 (.int .u32 0) 1 4 Tryd.underlying32 hi hz0 hz1 hz2 rfl (by decide) _ _ _ rfl HQ2.out.1 ⟨wr.heap.size, 0, none⟩ 1 1 [.int .u32 ((S : Int) % 65536)] rfl rfl (cell_one_new _ _ _) (fun x hx => by simp at hx; subst hx; rfl) (by unfold maxLen; omega) (by omega) (by simp; omega) ?_; intro v' w3 hown' hgrow3 hnil3))
          go_roundw
          case rel =>
            refine ⟨k + 1, S / 65536, by go_num, by omega, congrArg (Value.int .u32) (by omega), HQ2.out.2.2.2.2.symm, Own.push hown' (by rw [HQ2.out.2.2.2.1]; omega), ?_⟩
            exact (HQ2.out.2.1.alloc hsize _).grown (show (wr.alloc _).grownBy w3 u5.ownBlock from hgrow3) (by rw [World.size_alloc]; omega) HQ2.out.2.2.1
          case measure => simp [intOf]; omega
        · have hy0 : dg B16 Y k = 0 := dg_zero' B16_pos HBb.out.1.1 (by omega)
          rw [hy0, Nat.add_zero] at q2 q3
          have HQ := hid (And.intro q2 q3)
          clear q2 q3 hc0 hc hy0 hd2
          generalize dg B16 X k = d at *
          have hu1 : IntKind.u32.wrap ((d : Int) + (c : Int)) = ((d + c : Nat) : Int) := by rw [IntKind.wrap_u32]; omega
          have hcs : (d : Int) + (c : Int) = ((d + c : Nat) : Int) := by omega
          have hS : d + c < 4294967296 := by omega
          generalize d + c = S at *
          have hsize := hB.size
          have hown1 := fun q hq => (World.ownsRow.lt hown q hq).1
          have hal := (show wr.ownsRow wc.heap.size 58 1 u5 k ((List.range k).map (fun j => Value.int .u32 (dg B16 (X + Y) j : Nat))) from hown).alloc (.cells #[.int .u32 ((S : Int) % 65536)] 58)
          have HQ2 := hid (And.intro hal (And.intro hB (And.intro hown1 HQ.out)))
          clear hal hown hB hown1
          go_wp2_with (first
            | (at_builtin; refine wpList_append_own _ rfl _ _ 32 rfl wc.heap.size 58 i0 (.int .u32 0) 1 4 Tryd.underlying32 hi hz0 hz1 hz2 rfl (by decide) _ _ _ rfl HQ2.out.1 ⟨wr.heap.size, 0, none⟩ 1 1 [.int .u32 ((S : Int) % 65536)] rfl rfl (cell_one_new _ _ _) (fun x hx => by simp at hx; subst hx; rfl) (by unfold maxLen; omega) (by omega) (by simp; omega) ?_; intro v' w3 hown' hgrow3 hnil3))
          go_roundw
          case rel =>
            refine ⟨k + 1, S / 65536, by go_num, by omega, congrArg (Value.int .u32) (by omega), HQ2.out.2.2.2.2.symm, Own.push hown' (by rw [HQ2.out.2.2.2.1]; omega), ?_⟩
            exact (HQ2.out.2.1.alloc hsize _).grown (show (wr.alloc _).grownBy w3 u5.ownBlock from hgrow3) (by rw [World.size_alloc]; omega) HQ2.out.2.2.1
          case measure => simp [intOf]; omega
      · have hk' : k = ka := by omega
        subst hk'
        have hxk : X < B16 ^ k := HA.out.1.1
        have hyk : Y < B16 ^ k := Nat.lt_of_lt_of_le HBb.out.1.1 (Nat.pow_le_pow_right B16_pos hkk)
        have hc2 : c = (X + Y) / B16 ^ k := by rw [hc, Nat.mod_eq_of_lt hxk, Nat.mod_eq_of_lt hyk]
        have hP : 0 < B16 ^ k := Nat.pow_pos B16_pos
        have hs2 : X + Y < B16 ^ (k + 1) := by
          rw [Nat.pow_succ]
          have h1 : B16 ^ k * 2 ≤ B16 ^ k * B16 := Nat.mul_le_mul_left _ (by decide)
          omega
        have hdc : dg B16 (X + Y) k = c := by rw [dg_top hs2, hc2]
        have hcl : c < 65536 := by rw [← hdc]; exact dg_16 _ _
        by_cases h0 : c = 0
        · have hgt : decide (0 < c) = false := decide_eq_false (by omega)
          have hlen : Len B16 (X + Y) k := by
            refine ⟨?_, fun h => Nat.le_trans (HA.out.1.2 h) (Nat.le_add_right _ _)⟩
            rw [h0] at hc2
            exact (Nat.div_eq_zero_iff_lt hP).1 hc2.symm
          obtain ⟨p3, c3, rfl, hkc, hsl3⟩ := hown.slc
          have HF := hid (And.intro hlen (And.intro hsl3 hB))
          subst h0
          clear hlen hsl3 hB hown hc hc2 hdc hs2
          go_wp2_with fail
          go_ret
          exact ⟨_, rfl, ⟨p3, k, c3, rfl, hkc, HF.out.1, HF.out.2.1⟩, HF.out.2.2⟩
        · have hc00 : 0 < c := by omega
          have hlen : Len B16 (X + Y) (k + 1) := Len.of_top hs2 (by rw [hdc]; exact h0)
          have hsize := hB.size
          have hown1 := fun q hq => (World.ownsRow.lt hown q hq).1
          have hal := (show wr.ownsRow wc.heap.size 58 1 u5 k ((List.range k).map (fun j => Value.int .u32 (dg B16 (X + Y) j : Nat))) from hown).alloc (.cells #[.int .u32 (c : Int)] 58)
          have HQ2 := hid (And.intro hal (And.intro hB (And.intro hown1 (And.intro hdc hlen))))
          clear hal hown hB hown1 hdc hlen hc hc2 hs2
          go_wp2_with (first
            | (at_builtin; refine wpList_append_own _ rfl _ _ 32 rfl wc.heap.size 58 i0 (.int .u32 0) 1 4 Tryd.underlying32 hi hz0 hz1 hz2 rfl (by decide) _ _ _ rfl HQ2.out.1 ⟨wr.heap.size, 0, none⟩ 1 1 [.int .u32 (c : Int)] rfl rfl (cell_one_new _ _ _) (fun x hx => by simp at hx; subst hx; rfl) (by unfold maxLen; omega) (by omega) (by simp; omega) ?_; intro v' w3 hown' hgrow3 hnil3))
          have hB3 := (HQ2.out.2.1.alloc hsize _).grown (show (wr.alloc _).grownBy w3 u5.ownBlock from hgrow3) (by rw [World.size_alloc]; omega) HQ2.out.2.2.1
          have hO3 : Own w3 wc.heap.size v' (k + 1) (dg B16 (X + Y)) := Own.push hown' (by rw [HQ2.out.2.2.2.1])
          obtain ⟨p3, c3, rfl, hkc, hsl3⟩ := hO3.slc
          have HF := hid (And.intro hsl3 hB3)
          clear hown' hgrow3 hnil3 hO3 hsl3 hB3
          go_wp2_with fail
          go_ret
          exact ⟨_, rfl, ⟨p3, k + 1, c3, rfl, hkc, HQ2.out.2.2.2.2, HF.out.1⟩, HF.out.2⟩
end Go.Proofs.YtdinpeglclkjhaaDoor
