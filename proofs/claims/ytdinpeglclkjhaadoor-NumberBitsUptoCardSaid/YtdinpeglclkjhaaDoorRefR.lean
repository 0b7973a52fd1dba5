/- The natural numbers of the specification: NatGcd; the rational numbers: Make. -/
import Derived.Test.YtdinpeglclkjhaaDoorRefQ
namespace Go.Proofs.YtdinpeglclkjhaaDoor
open Go.RowKit Dg

def GcdRel (w0 : World) (x y k : Nat) (sa sb : Value) (wr : World) : Prop :=
  ∃ A B : Nat, B ≤ k ∧ Nat.gcd A B = Nat.gcd x y ∧ A < B16 ^ 800000000 ∧ B < B16 ^ 800000000 ∧ Rep B16 wr sa A ∧ Rep B16 wr sb B ∧ Below w0.heap.size w0 wr

set_option maxHeartbeats 4000000 in
set_option maxRecDepth 100000 in
theorem NatGcd_any (va vb : Value) (x y : Nat) (w : World) (ha : Rep B16 w va x) (hb : Rep B16 w vb y) (hx : x < B16 ^ 800000000) (hy : y < B16 ^ 800000000) :
    Calls Tryd.prog 97 #[va, vb] w fun e w' => ∃ v, e = .returned v ∧ Rep B16 w' v (Nat.gcd x y) ∧ Below w.heap.size w w' := by
  have HA : Hid (GcdRel w x y y va vb w) := hid ⟨x, y, Nat.le_refl _, rfl, hx, hy, ha, hb, Below.refl _ _⟩
  obtain ⟨p1, k1, c1, rfl, _⟩ := ha
  obtain ⟨p2, k2, c2, rfl, _⟩ := hb
  clear hx hy
  go_enter Tryd.func97, Tryd.ntmps97
  go_wp2_with fail
  go_loopg [0, 1] y (fun k sa sb wr => GcdRel w x y k sa sb wr)
  case atStart => exact HA.out
  case round =>
    clear HA
    obtain ⟨A, B, hk, hg, hA, hB, hRa, hRb, hBw⟩ := hrel
    have HR := hid (And.intro hRa (And.intro hRb (And.intro hBw (And.intro hA (And.intro hB (And.intro hg hk))))))
    obtain ⟨pb, nb, cb, rfl, hcb, hlb, hsb⟩ := hRb
    have hz := hlb.zero_iff B16_pos
    have hnb := hlb.le B16_pos hB
    by_cases h0 : nb = 0
    · subst h0
      have hB0 := hz.2 rfl
      have HB0 := hid hB0
      obtain ⟨pa, na, ca, rfl, _⟩ := id hRa
      clear hk hg hA hB hRa hBw hlb hsb hz hB0 hnb
      go_wp2_with fail
      go_ret
      refine ⟨_, rfl, ?_, HR.out.2.2.1⟩
      rw [← HR.out.2.2.2.2.2.1, HB0.out, Nat.gcd_zero_right]
      exact HR.out.1
    · have hpos : 0 < B := Nat.pos_of_ne_zero fun h => h0 (hz.1 h)
      have hd := hid (NatDiv_any _ _ A B _ HR.out.1 HR.out.2.1 hA hB hpos)
      have HP := hid hpos
      have hnb0 : 0 < nb := Nat.pos_of_ne_zero h0
      clear hk hg hA hB hRa hBw hlb hsb hz hpos h0
      go_wp2_with fail
      refine hd.out.mono ?_
      rintro e w2 ⟨v1, v2, rfl, hR1, hR2, hB2⟩
      have H2 := hid (And.intro hR2 (And.intro (HR.out.2.1.below hB2) (HR.out.2.2.1.trans (hB2.mono HR.out.2.2.1.size))))
      clear hR1 hR2 hB2 hd
      go_wp2_with fail
      go_roundg (A % B)
      case measure => exact Nat.lt_of_lt_of_le (Nat.mod_lt _ HP.out) HR.out.2.2.2.2.2.2
      case rel =>
        refine ⟨B, A % B, Nat.le_refl _, ?_, HR.out.2.2.2.2.1, Nat.lt_of_le_of_lt (Nat.mod_le _ _) HR.out.2.2.2.1, H2.out.2.1, H2.out.1, H2.out.2.2⟩
        rw [← HR.out.2.2.2.2.2.1, Nat.gcd_comm A B, Nat.gcd_rec B A, Nat.gcd_comm]

set_option maxHeartbeats 4000000 in
set_option maxRecDepth 100000 in
theorem Make_long (s : Bool) (vn vd : Value) (n d : Nat) (w : World) (hn : Rep B16 w vn n) (hd : Rep B16 w vd d) (hnB : n < B16 ^ 800000000) (hdB : d < B16 ^ 800000000) (hn0 : n ≠ 0) (hd1 : 1 < d) :
    Calls Tryd.prog 60 #[.bool s, vn, vd] w fun e w' => ∃ v, e = .returned v ∧ QNorm w' v (mkq s n d) ∧ Below w.heap.size w w' := by
  have hm : mkq s n d = frac s n d := if_neg (by omega)
  have hfr : frac s n d = (s, n / Nat.gcd n d, d / Nat.gcd n d) := by unfold frac; simp [hn0]
  rw [hm, hfr]
  have hg0 : 0 < Nat.gcd n d := Nat.gcd_pos_of_pos_right _ (by omega)
  have hgB : Nat.gcd n d < B16 ^ 800000000 := Nat.lt_of_le_of_lt (Nat.gcd_le_right _ (by omega)) hdB
  have HG := hid (fun (W : World) (hW : Below w.heap.size w W) => NatGcd_any vn vd n d W (hn.below hW) (hd.below hW) hnB hdB)
  have HD1 := hid (fun (W : World) (vg : Value) (hW : Below w.heap.size w W) (hg : Rep B16 W vg (Nat.gcd n d)) => NatDiv_any vn vg n (Nat.gcd n d) W (hn.below hW) hg hnB hgB hg0)
  have HD2 := hid (fun (W : World) (vg : Value) (hW : Below w.heap.size w W) (hg : Rep B16 W vg (Nat.gcd n d)) => NatDiv_any vd vg d (Nat.gcd n d) W (hd.below hW) hg hdB hgB hg0)
  obtain ⟨p1, k1, c1, rfl, hk1, hl1, hs1⟩ := hn
  obtain ⟨p2, k2, c2, rfl, hk2, hl2, hs2⟩ := hd
  have hf1 : ((k1 : Int) == 0) = false := by
    have : k1 ≠ 0 := fun h => hn0 ((hl1.zero_iff B16_pos).2 h)
    simpa using this
  have hk20 : k2 ≠ 0 := fun h => by have := (hl2.zero_iff B16_pos).2 h; omega
  have hf2 : ((k2 : Int) == 0) = false := by simpa using hk20
  have hb2 := hl2.le B16_pos hdB
  have hb1 := hl1.le B16_pos hnB
  obtain ⟨b2, o2, rfl, hc2⟩ := hs2 (by omega)
  have hc20 := hc2 0 (by omega)
  have ho := one_of_len16 hl2
  have hcase : (k2 = 1 ∧ ((dg B16 d 0 : Int) == 1) = false) ∨ ((k2 : Int) == 1) = false := by
    by_cases h : k2 = 1
    · left
      refine ⟨h, ?_⟩
      have : dg B16 d 0 ≠ 1 := fun h2 => by have := ho.2 ⟨h, h2⟩; omega
      simp; omega
    · right; simp; omega
  obtain ⟨g, hgg⟩ : ∃ g, g = Nat.gcd n d := ⟨_, rfl⟩
  rw [← hgg] at HG HD1 HD2 ⊢
  obtain ⟨qa, hqa⟩ : ∃ q, q = n / g := ⟨_, rfl⟩
  obtain ⟨qb, hqb⟩ : ∃ q, q = d / g := ⟨_, rfl⟩
  rw [← hqa] at HD1 ⊢
  rw [← hqb] at HD2 ⊢
  have hcell : (w.alloc (.cells #[.bool false, .slice none 0 0, .slice none 0 0] 34)).cell? ⟨b2, o2 + 0, none⟩ = some (.int .u32 (dg B16 d 0 : Nat)) := by rw [World.cell?_alloc_lt _ _ _ (World.block_lt_of_cell? _ _ hc20)]; exact hc20
  rw [Nat.add_zero] at hcell
  have hV0 := Var3.alloc w (x := .bool false) (y := .slice none 0 0) (z := .slice none 0 0) 34 trivial trivial trivial
  have hB0 := (Below.refl w.heap.size w).alloc (Nat.le_refl _) (.cells #[.bool false, .slice none 0 0, .slice none 0 0] 34)
  have hdd := dg_16 d 0
  have HV := hid (And.intro hV0 hB0)
  clear hgg hqa hqb hm hfr hg0 hgB hl1 hs1 hl2 hs2 hc2 hc20 ho hnB hdB hn0 hd1 hV0 hB0
  generalize dg B16 d 0 = d0 at *
  rcases hcase with ⟨rfl, hd01⟩ | hk21
  all_goals
    go_enter Tryd.func60, Tryd.ntmps60
    go_upto_region 5 with fail
    generalize w.alloc (.cells #[.bool false, .slice none 0 0, .slice none 0 0] 34) = W0 at *
    go_wp2_with fail
    refine (HG.out _ HV.out.2).mono ?_
    rintro e w1 ⟨v1, rfl, hR1, hB1⟩
    have H1 := hid (And.intro hR1 (And.intro (HV.out.1.below hB1) (HV.out.2.trans (hB1.mono HV.out.2.size))))
    obtain ⟨p3, k3, c3, rfl, hx3⟩ := id hR1
    clear hx3 hR1 hB1 hcell
    go_wp2_with fail
    refine (HD1.out w1 _ H1.out.2.2 H1.out.1).mono ?_
    rintro e w2 ⟨v2, v2', rfl, hR2, _, hB2⟩
    have H2 := hid (And.intro hR2 (And.intro (H1.out.1.below hB2) (And.intro (H1.out.2.1.below hB2) (H1.out.2.2.trans (hB2.mono H1.out.2.2.size)))))
    obtain ⟨p4, k4, c4, rfl, hx4⟩ := id hR2
    clear hx4 hR2 hB2 H1
    go_wp2_with fail
    refine (HD2.out w2 _ H2.out.2.2.2 H2.out.2.1).mono ?_
    rintro e w3 ⟨v3, v3', rfl, hR3, _, hB3⟩
    have hV3 := H2.out.2.2.1.below hB3
    have H3 := hid (And.intro (H2.out.1.below hB3) (And.intro hR3 (And.intro hV3 (H2.out.2.2.2.trans (hB3.mono H2.out.2.2.2.size)))))
    obtain ⟨p5, k5, c5, rfl, hx5⟩ := id hR3
    obtain ⟨x0, x1, x2, y0, y1, y2⟩ := hV3.cells
    clear hx5 hR3 hB3 H2 hV3
    go_wp2_with fail
    exact Make_ret rfl (H3.out.2.2.1.store trivial trivial trivial) ⟨_, rfl, ⟨_, _, rfl, H3.out.1.store3 H3.out.2.2.1 _ _ _, H3.out.2.1.store3 H3.out.2.2.1 _ _ _⟩, below_set3 H3.out.2.2.2 (Nat.le_refl _)⟩

theorem lt_8 {x a : Nat} (h : x < B16 ^ a) (hab : a ≤ 800000000) : x < B16 ^ 800000000 := by
  generalize 800000000 = b at *
  exact Nat.lt_of_lt_of_le h (Nat.pow_le_pow_right B16_pos hab)
/-- Make reduces every pair of bounded numbers. -/
theorem MakeOK.any {n d a : Nat} (hn : n < B16 ^ a) (hd : d < B16 ^ a) (ha : a ≤ 800000000) : MakeOK n d := by
  by_cases h : n = 0 ∨ d ≤ 1
  · exact MakeOK.short (lt_16 hn (by omega)) h
  · exact fun s vn vd w h1 h2 => Make_long s vn vd n d w h1 h2 (lt_8 hn ha) (lt_8 hd ha) (by omega) (by omega)
end Go.Proofs.YtdinpeglclkjhaaDoor
