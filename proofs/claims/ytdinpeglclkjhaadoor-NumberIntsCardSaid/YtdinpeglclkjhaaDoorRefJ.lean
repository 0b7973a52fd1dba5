/- The rational numbers of the specification: Equal. -/
import Derived.Test.YtdinpeglclkjhaaDoorRefI
namespace Go.Proofs.YtdinpeglclkjhaaDoor
open Go.RowKit Dg

theorem mul_16 {x y : Nat} (hx : x < B16 ^ 400000000) (hy : y < B16 ^ 400000000) : x * y < B16 ^ 1000000000 := by
  have h := mul_lt16 hx hy
  exact lt_16 h (by omega)
theorem lt_16_4 {x a : Nat} (h : x < W32 ^ a) (ha : a ≤ 200000000) : x < B16 ^ 400000000 := by
  rw [pow_two_k] at h
  have h2 : 2 * a ≤ 400000000 := by omega
  generalize 400000000 = b at *
  exact Nat.lt_of_lt_of_le h (Nat.pow_le_pow_right B16_pos h2)
theorem den1_4 {d : Nat} (h : d < B16 ^ 400000000) : den1 d < B16 ^ 400000000 := by
  unfold den1
  split
  · generalize hb : 400000000 = b at *
    have : B16 ^ 1 ≤ B16 ^ b := Nat.pow_le_pow_right B16_pos (by omega)
    exact Nat.lt_of_lt_of_le (by decide) this
  · exact h
theorem big_4 {x : Nat} (h : x < B16 ^ 400000000) : x < B16 ^ 1000000000 := lt_16 h (by omega)

/-- The two numbers are the same. -/
def SameQ (s : Bool) (n d : Nat) (s' : Bool) (n' d' : Nat) : Prop := (n = 0 ∧ n' = 0) ∨ (n ≠ 0 ∧ n' ≠ 0 ∧ s = s' ∧ n * den1 d' = n' * den1 d)

set_option maxHeartbeats 4000000 in
set_option maxRecDepth 100000 in
theorem Equal_any (vx : Value) (s : Bool) (n d : Nat) (vy : Value) (s' : Bool) (n' d' : Nat) (w : World) (hx : ARep w vx s n d) (hy : ARep w vy s' n' d')
    (hn : n < B16 ^ 400000000) (hd : d < B16 ^ 400000000) (hn' : n' < B16 ^ 400000000) (hd' : d' < B16 ^ 400000000) (hS : SameQ s n d s' n' d') :
    Calls Tryd.prog 24 #[vx, vy] w fun e w' => e = .returned (.bool true) ∧ Below w.heap.size w w' := by
  obtain ⟨vn, vd, rfl, ⟨p1, k1, c1, rfl, hk1, hb1, hx1, hs1⟩, ⟨p2, k2, c2, rfl, hk2, hb2, hx2, hs2⟩⟩ := hx
  obtain ⟨un, ud, rfl, ⟨p3, k3, c3, rfl, hk3, hb3, hx3, hs3⟩, ⟨p4, k4, c4, rfl, hk4, hb4, hx4, hs4⟩⟩ := hy
  have hW1 := hid (fun (W : World) (hW : Below w.heap.size w W) => words16_any p1 k1 c1 n W hb1 hk1 hx1 (hs1.below hW))
  have hW2 := hid (fun (W : World) (hW : Below w.heap.size w W) => words16_any p2 k2 c2 d W hb2 hk2 hx2 (hs2.below hW))
  have hW3 := hid (fun (W : World) (hW : Below w.heap.size w W) => words16_any p3 k3 c3 n' W hb3 hk3 hx3 (hs3.below hW))
  have hW4 := hid (fun (W : World) (hW : Below w.heap.size w W) => words16_any p4 k4 c4 d' W hb4 hk4 hx4 (hs4.below hW))
  have HB := hid (And.intro (And.intro hn (den1_4 hd)) (And.intro hn' (den1_4 hd')))
  have HS := hid hS
  clear hs1 hs2 hs3 hs4 hx1 hx2 hx3 hx4 hn hd hn' hd' hS
  go_enter Tryd.func24, Tryd.ntmps24
  go_upto_region 1 with fail
  have hVa := (Var3.alloc w (x := .bool s) (y := .slice p1 k1 c1) (z := .slice p2 k2 c2) 24 trivial trivial trivial).below ((Below.refl _ _).alloc (Nat.le_refl _) (.cells #[.bool s', .slice p3 k3 c3, .slice p4 k4 c4] 24))
  have hVb := Var3.alloc2 w (.cells #[.bool s, .slice p1 k1 c1, .slice p2 k2 c2] 24) (x := .bool s') (y := .slice p3 k3 c3) (z := .slice p4 k4 c4) 24 trivial trivial trivial
  have hB0 := below_alloc2 w (.cells #[.bool s, .slice p1 k1 c1, .slice p2 k2 c2] 24) (.cells #[.bool s', .slice p3 k3 c3, .slice p4 k4 c4] 24)
  generalize (w.alloc (.cells #[.bool s, .slice p1 k1 c1, .slice p2 k2 c2] 24)).alloc (.cells #[.bool s', .slice p3 k3 c3, .slice p4 k4 c4] 24) = W0 at *
  have HC : Hid (∀ w', Below W0.heap.size W0 w' → (w'.cell? ⟨w.heap.size, 1, none⟩ = some (.slice p1 k1 c1) ∧ w'.cell? ⟨w.heap.size + 1, 1, none⟩ = some (.slice p3 k3 c3) ∧ Hid (Below W0.heap.size W0 w'))) :=
    hid fun w' hb => ⟨(hVa.below hb).cells.2.1, (hVb.below hb).cells.2.1, hid hb⟩
  have HD : Hid (∀ w', Below W0.heap.size W0 w' → (w'.cell? ⟨w.heap.size, 2, none⟩ = some (.slice p2 k2 c2) ∧ w'.cell? ⟨w.heap.size + 1, 2, none⟩ = some (.slice p4 k4 c4) ∧ Hid (Below W0.heap.size W0 w'))) :=
    hid fun w' hb => ⟨(hVa.below hb).cells.2.2.1, (hVb.below hb).cells.2.2.1, hid hb⟩
  have HE : Hid (∀ w', Below W0.heap.size W0 w' → (w'.cell? ⟨w.heap.size, 0, none⟩ = some (.bool s) ∧ w'.cell? ⟨w.heap.size + 1, 0, none⟩ = some (.bool s'))) :=
    hid fun w' hb => ⟨(hVa.below hb).cells.1, (hVb.below hb).cells.1⟩
  have HB0 := hid hB0
  clear hVa hVb hB0
  go_region_held3 (fun w' => w'.cell? ⟨w.heap.size, 1, none⟩ = some (.slice p1 k1 c1) ∧ w'.cell? ⟨w.heap.size + 1, 1, none⟩ = some (.slice p3 k3 c3) ∧ Hid (Below W0.heap.size W0 w'))
    (first | exact HC.out _ (Below.refl _ _).drew | (exact HC.out _ (by assumption)))
    (first
      | (go_at_call_of 55 k1; refine (hW1.out _ (HB0.out.trans ((held2 (N := W0.heap.size) (W0 := W0) (by assumption)).mono HB0.out.size))).mono ?_; rintro e wx ⟨va, rfl, hRa, hBa⟩; have hKa := held_any (held2 (N := W0.heap.size) (W0 := W0) (by assumption)) hBa)
      | (go_at_call_of 55 k3; refine (hW3.out _ (HB0.out.trans ((held2 (N := W0.heap.size) (W0 := W0) (by assumption)).mono HB0.out.size))).mono ?_; rintro e wy ⟨vb, rfl, hRb, hBb⟩; have hKb := held_any (held2 (N := W0.heap.size) (W0 := W0) (by assumption)) hBb))
  rename_i hHeld
  clear hHeld
  have hRa' := hRa.below hBb
  clear hRa hBa hKa hBb
  have HR := hid (And.intro hRa' (And.intro hRb hKb))
  obtain ⟨pa, ka, ca, rfl, _, hla, _⟩ := hRa'
  obtain ⟨pb, kb, cb, rfl, _, hlb, _⟩ := hRb
  have hza := hla.zero_iff B16_pos
  have hzb := hlb.zero_iff B16_pos
  rcases HS.out with ⟨h1, h2⟩ | ⟨h1, h2, h3, h4⟩
  · obtain rfl := hza.1 h1
    obtain rfl := hzb.1 h2
    clear hza hzb hla hlb h1 h2 hW1 hW2 hW3 hW4
    go_wp2_with fail
    go_ret
    exact ⟨rfl, HB0.out.trans (hKb.mono HB0.out.size)⟩
  · have hfa : ((ka : Int) == 0) = false := by simp; exact fun h => h1 (hza.2 h)
    have hfb : ((kb : Int) == 0) = false := by simp; exact fun h => h2 (hzb.2 h)
    subst h3
    have H4 := hid h4
    clear hza hzb hla hlb h1 h2 h4 hKb
    go_wp2_with fail
    go_region_held3 (fun w' => w'.cell? ⟨w.heap.size, 2, none⟩ = some (.slice p2 k2 c2) ∧ w'.cell? ⟨w.heap.size + 1, 2, none⟩ = some (.slice p4 k4 c4) ∧ Hid (Below W0.heap.size W0 w'))
      (first | exact HD.out _ HR.out.2.2.drew | (exact HD.out _ (by assumption)))
      (first
        | (go_at_call_of 55 k2; refine (hW2.out _ (HB0.out.trans ((held2 (N := W0.heap.size) (W0 := W0) (by assumption)).mono HB0.out.size))).mono ?_; rintro e w1 ⟨v1, rfl, hR1, hB1⟩; have hK1 := held_any (held2 (N := W0.heap.size) (W0 := W0) (by assumption)) hB1; obtain ⟨p5, k5, c5, rfl, h5⟩ := id hR1; clear h5)
        | (go_at_call_of 55 k4; refine (hW4.out _ (HB0.out.trans ((held2 (N := W0.heap.size) (W0 := W0) (by assumption)).mono HB0.out.size))).mono ?_; rintro e w3 ⟨v3, rfl, hR3, hB3⟩; have hK3 := held_any (held2 (N := W0.heap.size) (W0 := W0) (by assumption)) hB3; obtain ⟨p6, k6, c6, rfl, h6⟩ := id hR3; clear h6)
        | (go_at_call_of 63 k6; refine (den_any _ false 0 d' _ ⟨_, _, rfl, Rep.nil, hR3⟩).mono ?_; rintro e w4 ⟨v4, rfl, hR4, hB4⟩; have hK4 := held_any (held2 (N := W0.heap.size) (W0 := W0) (by assumption)) hB4)
        | (go_at_call_of 63 k5; refine (den_any _ false 0 d _ ⟨_, _, rfl, Rep.nil, hR1⟩).mono ?_; rintro e w2 ⟨v2, rfl, hR2, hB2⟩; have hK2 := held_any (held2 (N := W0.heap.size) (W0 := W0) (by assumption)) hB2))
    rename_i hHeld
    clear hHeld
    have hy4 := (Below.refl wy.heap.size wy).drew.trans ((hB1.trans ((hB2.mono hB1.size).trans ((hB3.mono (Nat.le_trans hB1.size hB2.size)).trans (hB4.mono (Nat.le_trans hB1.size (Nat.le_trans hB2.size hB3.size)))))))
    have HR5 := hid (And.intro (And.intro (HR.out.1.below hy4) (HR.out.2.1.below hy4)) (And.intro ((hR2.below hB3).below hB4) (And.intro hR4 (HB0.out.trans (hK4.mono HB0.out.size)))))
    obtain ⟨e0, e1⟩ := HE.out w4 hK4
    clear hR1 hB1 hK1 hR2 hB2 hK2 hR3 hB3 hK3 hR4 hB4 hK4 hy4 HD HC HE hW1 hW2 hW3 hW4
    have hss : (s == s) = true := by cases s <;> rfl
    go_wp2_with fail
    refine (NatMul_any _ _ n (den1 d') w4 HR5.out.1.1 HR5.out.2.2.1 (big_4 HB.out.1.1) (big_4 HB.out.2.2)).mono ?_
    rintro e w5 ⟨v5, rfl, hR5, hB5⟩
    go_wp2_with fail
    refine (NatMul_any _ _ n' (den1 d) w5 (HR5.out.1.2.below hB5) (HR5.out.2.1.below hB5) (big_4 HB.out.2.1) (big_4 HB.out.1.2)).mono ?_
    rintro e w6 ⟨v6, rfl, hR6, hB6⟩
    have hcm := NatCmp_any v5 v6 (n * den1 d') (n' * den1 d) w6 (hR5.below hB6) hR6 (mul_16 HB.out.1.1 HB.out.2.2) (mul_16 HB.out.2.1 HB.out.1.2)
    rw [H4.out, cmp3_eq] at hcm
    have HL := hid (HR5.out.2.2.2.trans ((hB5.mono HR5.out.2.2.2.size).trans (hB6.mono (Nat.le_trans HR5.out.2.2.2.size hB5.size))))
    have hcm' := hid hcm
    clear hcm hR5 hB5 hR6 hB6
    go_wp2_with fail
    refine hcm'.out.mono ?_
    rintro e w7 ⟨rfl, q, rfl⟩
    go_wp2_with fail
    go_ret
    exact ⟨rfl, below_drewN HL.out q⟩
end Go.Proofs.YtdinpeglclkjhaaDoor
