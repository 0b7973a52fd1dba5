/- The natural numbers of the specification: NatDiv by more than a digit. -/
import Derived.Test.YtdinpeglclkjhaaDoorRefP
import Derived.Deep.RegionHeld3
namespace Go.Proofs.YtdinpeglclkjhaaDoor
open Go.RowKit Dg

theorem shl_lt' {x a s : Nat} (hx : x < B16 ^ a) (hs : s < 16) : x * 2 ^ s < B16 ^ (a + 1) := by
  rw [Nat.pow_succ]
  exact Nat.mul_lt_mul'' hx (Nat.lt_of_lt_of_le (Nat.pow_lt_pow_right (by omega) hs) (by decide))
theorem len_bd {y n : Nat} (hl : Len B16 y n) {x a s : Nat} (hx : x < B16 ^ a) (hs : s < 16) (he : y = x * 2 ^ s) : n ≤ a + 1 := hl.le B16_pos (by rw [he]; exact shl_lt' hx hs)
theorem quo_lt {A V m n T : Nat} (hA : A < B16 ^ m) (hV : Len B16 V n) (hn : 0 < n) (hT : T + n = m + 1) : A / V < B16 ^ T := by
  refine Nat.div_lt_of_lt_mul (Nat.lt_of_lt_of_le hA ?_)
  rw [show m = (n - 1) + T by omega, Nat.pow_add]
  exact Nat.mul_le_mul_right _ (hV.2 hn)
theorem held1' {N : Nat} {W0 W : World} (h : True ∧ Hid (Below N W0 W)) : Below N W0 W := h.2.out

set_option maxHeartbeats 8000000 in
set_option maxRecDepth 100000 in
theorem NatDiv_long (va vb : Value) (x y : Nat) (w : World) (ha : Rep B16 w va x) (hb : Rep B16 w vb y) (hx : x < B16 ^ 800000000) (hy1 : 65536 ≤ y) (hxy : y ≤ x) :
    Calls Tryd.prog 98 #[va, vb] w fun e w' => ∃ v1 v2, e = .returned (.tuple #[v1, v2]) ∧ Rep B16 w' v1 (x / y) ∧ Rep B16 w' v2 (x % y) ∧ Below w.heap.size w w' := by
  obtain ⟨i0, hi, hz0, hz1, hz2⟩ := info_parts Tryd.infoU32
  have HX8 := hid hx
  have hx9 : x < B16 ^ 1000000000 := lt_16 hx (by omega)
  have hy9 : y < B16 ^ 1000000000 := Nat.lt_of_le_of_lt hxy hx9
  have HC := hid (NatCmp_any va vb x y w ha hb hx9 hy9)
  have HA := hid ha
  have HBb := hid hb
  obtain ⟨p1, k1, c1, rfl, hk1, hl1, hs1⟩ := ha
  obtain ⟨p2, k2, c2, rfl, hk2, hl2, hs2⟩ := hb
  have hk2b : 2 ≤ k2 := by
    rcases Nat.lt_or_ge k2 2 with h | h
    · have h1 : y < B16 ^ 1 := Nat.lt_of_lt_of_le hl2.1 (Nat.pow_le_pow_right B16_pos (by omega))
      rw [Nat.pow_one, B16_val] at h1
      omega
    · exact h
  have hk2m : k2 ≤ 800000000 := hl2.le B16_pos (Nat.lt_of_le_of_lt hxy hx)
  obtain ⟨b2, o2, rfl, hc2⟩ := hs2 (by omega)
  have hct := hc2 (k2 - 1) (by omega)
  have hd0 : 0 < dg B16 y (k2 - 1) := Nat.pos_of_ne_zero (hl2.top B16_pos (by omega))
  have hdl := dg_16 y (k2 - 1)
  have hcd : decide (cmp3 x y < 0) = false := decide_eq_false (by unfold cmp3; rw [if_neg (by omega)]; split <;> decide)
  obtain ⟨r, hrr⟩ : ∃ r, r = cmp3 x y := ⟨_, rfl⟩
  rw [← hrr] at HC hcd
  clear hrr
  have HL := hid (And.intro hl2 (And.intro hk2b (And.intro hk2m (And.intro hxy (And.intro hx9 hy9)))))
  have HCT := hid hct
  obtain ⟨d, hd⟩ : ∃ d, d = dg B16 y (k2 - 1) := ⟨_, rfl⟩
  rw [← hd] at hd0 hdl HCT
  have HD := hid hd
  have h20 : ((k2 : Int) == 0) = false := by simp; omega
  have h21 : ((k2 : Int) == 1) = false := by simp; omega
  have em : ((k2 : Int) - 1) = ((k2 - 1 : Nat) : Int) := by omega
  clear hct hd hc2 hs1 hl1 hs2 hl2 hx hx9 hy9 hxy hy1 hk1
  go_enter Tryd.func98, Tryd.ntmps98
  go_wp2_with fail
  refine HC.out.mono ?_
  rintro e w' ⟨rfl, q, rfl⟩
  have hB1 := (below_drewN (Below.refl w.heap.size w) q)
  have hct := hB1.cell (p := ⟨b2, o2 + (k2 - 1), none⟩) (World.block_lt_of_cell? _ _ HCT.out)
  rw [HCT.out] at hct
  have HB1 := hid hB1
  generalize w.drewN q = W1 at *
  clear hB1 HC HCT
  go_wp2_with fail
  go_loopw [8] (fun sv wr => ∃ s : Nat, sv = .int .i64 s ∧ d * 2 ^ s < 65536 ∧ wr = W1) (fun sv _ => 16 - (intOf sv).toNat)
  case atStart => exact ⟨0, rfl, by simpa using hdl, rfl⟩
  case round =>
    obtain ⟨s, rfl, hs, hwr⟩ := hrel
    subst hwr
    have hs16 := norm_pos hd0 hs
    have hws : IntKind.u64.wrap (s : Int) = s := by rw [IntKind.wrap_u64]; omega
    obtain ⟨E, hE⟩ : ∃ E, E = d * 2 ^ s := ⟨_, rfl⟩
    have hsh : ((d : Int) * 2 ^ s) % 4294967296 = (E : Int) := by
      rw [show (d : Int) * 2 ^ s = ((d * 2 ^ s : Nat) : Int) by push_cast; rfl, ← hE]
      omega
    rw [← hE] at hs
    have HE := hid hE
    clear hE
    by_cases hlt : E < 32768
    · have hdc : decide ((E : Int) < 32768) = true := decide_eq_true (by omega)
      go_wp2_with fail
      go_roundw
      case rel => exact ⟨s + 1, by go_num, by rw [Nat.pow_succ, ← Nat.mul_assoc, ← HE.out]; omega, by trivial⟩
      case measure => simp [intOf]; omega
    · have hdc : decide ((E : Int) < 32768) = false := decide_eq_false (by omega)
      have hsE : d * 2 ^ s < 65536 := by rw [← HE.out]; exact hs
      have hSV := hid (NatShl_own (.slice (some ⟨b2, o2, none⟩) k2 c2) y s wr (HBb.out.below HB1.out) HL.out.2.2.2.2.2 hs16)
      have hSA := hid (fun (W : World) (hW : Below wr.heap.size wr W) => NatShl_own (.slice p1 k1 c1) x s W ((HA.out.below HB1.out).below hW) HL.out.2.2.2.2.1 hs16)
      have HV := hid (norm_len (s := s) HL.out.1 (by have := HL.out.2.1; omega) (by rw [← HD.out]; exact hsE))
      clear hs hsE HE hlt
      go_wp2_with fail
      refine hSV.out.mono ?_
      rintro e w2 ⟨v2, n2, rfl, hlen2, hown2, hB2⟩
      obtain rfl : n2 = k2 := Len.unique B16_one hlen2 HV.out
      obtain ⟨b3, c3, rfl, hb3, hc3, hm3, hur3⟩ := own_urow hown2 (by omega)
      have HB2 := hid (HB1.out.trans (hB2.mono HB1.out.size))
      have HV2 := hid (And.intro hur3 (And.intro hlen2 hc3))
      have hA2 := hid (hSA.out w2 hB2)
      have hw2 : wr.heap.size ≤ w2.heap.size := hB2.size
      clear hSV hSA hown2 hB2 hlen2 hur3 hct hdc hws hsh
      go_wp2_with fail
      refine hA2.out.mono ?_
      rintro e w3 ⟨v3, m3, rfl, hlen3, hown3, hB3⟩
      have hx0 : 0 < x := by have := HL.out.2.2.2.1; have := HL.out.1.pos B16_pos (by have := HL.out.2.1; omega); omega
      have hm30 : 0 < m3 := by
        rcases Nat.eq_zero_or_pos m3 with h | h
        · exfalso
          have h1 := (hlen3.zero_iff B16_pos).2 h
          have h2 : 0 < x * 2 ^ s := Nat.mul_pos hx0 (Nat.pow_pos (by omega))
          omega
        · exact h
      have hm3 : m3 ≤ 800000001 := len_bd hlen3 HX8.out hs16 rfl
      have hnm : n2 ≤ m3 := by
        rcases Nat.lt_or_ge m3 n2 with h | h
        · exfalso
          have h1 := Len.lt_of_lt B16_pos hlen3 HV.out h
          have h2 : y * 2 ^ s ≤ x * 2 ^ s := Nat.mul_le_mul_right _ HL.out.2.2.2.1
          omega
        · exact h
      have hA0 : dg B16 (x * 2 ^ s) m3 = 0 := dg_zero' B16_pos hlen3.1 (Nat.le_refl _)
      have hown1 := fun q hq => (World.ownsRow.lt hown3 q hq).1
      have hal := (show w3.ownsRow w2.heap.size 58 1 v3 m3 ((List.range m3).map (fun j => Value.int .u32 (dg B16 (x * 2 ^ s) j : Nat))) from hown3).alloc (.cells #[.int .u32 0] 58)
      have HA3' := hid hlen3
      have HA3 := hid (And.intro hal (And.intro hB3 (And.intro hown1 (And.intro hA0 (And.intro hlen3 hnm)))))
      have hsz3 := hB3.size
      obtain ⟨g3, cg3, rfl, hx3⟩ : ∃ g c, v3 = .slice (some ⟨g, 0, none⟩) m3 c ∧ True := by obtain ⟨g, c, h, _⟩ := own_urow hown3 hm30; exact ⟨g, c, h, trivial⟩
      clear hx3 hal hown3 hB3 hown1 hA0 hlen3 hx0 hA2
      go_wp2_with (first
        | (at_builtin; refine wpList_append_own _ rfl _ _ 32 rfl w2.heap.size 58 i0 (.int .u32 0) 1 4 Tryd.underlying32 hi hz0 hz1 hz2 rfl (by decide) _ _ _ rfl HA3.out.1 ⟨w3.heap.size, 0, none⟩ 1 1 [.int .u32 0] rfl rfl (cell_one_new _ _ _) (fun x hx => by simp at hx; subst hx; rfl) (by unfold maxLen; omega) (by omega) (by rw [World.size_alloc]; omega) ?_; intro v' w4 hown' hgrow4 hnil4))
      have hB4 : Below w2.heap.size w2 w4 := (HA3.out.2.1.alloc hsz3 _).grown (show (w3.alloc _).grownBy w4 (Value.ownBlock (.slice (some ⟨g3, 0, none⟩) m3 cg3)) from hgrow4) (by rw [World.size_alloc]; omega) HA3.out.2.2.1
      have hO4 : Own w4 w2.heap.size v' (m3 + 1) (dg B16 (x * 2 ^ s)) := Own.push hown' (by rw [HA3.out.2.2.2.1]; rfl)
      obtain ⟨L4, hL4⟩ : ∃ L4, L4 = m3 + 1 := ⟨_, rfl⟩
      rw [← hL4] at hO4
      obtain ⟨g4, c4, rfl, hb4, hc4, hm4, hur4⟩ := own_urow hO4 (by omega)
      have hsl4 := (HV2.out.1.slc (i := 0) (n := n2) (by omega)).below hB4
      rw [Nat.pow_zero, Nat.div_one] at hsl4
      have hlt3 := HV2.out.1.lt
      have hlt4 := hur4.lt
      have H4 := hid (And.intro hur4 (And.intro hsl4 (And.intro (HB2.out.trans (hB4.mono HB2.out.size)) (And.intro hb4 (And.intro hlt3 hc4)))))
      have hw2' := HB2.out.size
      have hnm' : n2 ≤ m3 := hnm
      obtain ⟨T, hT⟩ : ∃ T, T = m3 + 1 - n2 := ⟨_, rfl⟩
      have hT1 : (L4 : Int) - (n2 : Int) = (T : Int) := by omega
      have hTl : T ≤ 800000001 := by have := HL.out.2.1; omega
      have hmk := Tryd.mkN T (by omega)
      have HT := hid (And.intro hL4 (And.intro hT hm3))
      have hL4b : L4 ≤ 800000002 := by omega
      have HQ := hid (And.intro hb3 (And.intro hb4 (And.intro hlt4 (And.intro hw2 (And.intro hw2' hnm)))))
      clear hown' hgrow4 hnil4 hO4 hB4 hur4 hsl4 hL4 hT hm4 hb3 hb4 hlt4 hw2 hw2' hnm hnm' hlt3 hsz3 HA3 hm3 hm30
      go_wp2_with fail
      go_simp
      go_wp2_with fail
      clear hmk
      have hal5 := (Below.refl w4.heap.size w4).alloc (Nat.le_refl _) (.cells (madeCells #[.int .u32 0] T) 58)
      have HE := hid (div_start (T := T) (m := m3) HA3'.out.1 HV.out (by omega) (by have := HT.out; have := HQ.out.2.2.2.2.2; omega))
      go_loopw [13] (DivRel w g4 w4.heap.size b3 0 n2 L4 T (x * 2 ^ s) (y * 2 ^ s)) (fun jv _ => (intOf jv + 1).toNat)
      case atStart =>
        exact ⟨T, 0, x * 2 ^ s, Nat.le_refl _, rfl, HE.out.1, HE.out.2, H4.out.1.below hal5, urow_made w4 T, H4.out.2.1.below hal5, H4.out.2.2.1.alloc H4.out.2.2.1.size _⟩
      case round =>
        obtain ⟨t, Z, D, ht, rfl, hD, hZ, hg, hq, hs, hB⟩ := hrel
        rcases Nat.eq_zero_or_pos t with h0 | h0
        · subst h0
          have hV0 : 0 < y * 2 ^ s := HV.out.pos B16_pos (by omega)
          rw [Nat.pow_zero, Nat.mod_one, Nat.zero_add, Nat.one_mul, Nat.div_one] at hD
          rw [Nat.pow_zero, Nat.one_mul, Nat.div_one] at hZ
          have h2s : 0 < 2 ^ s := Nat.pow_pos (by omega)
          have eD : D / 2 ^ s = x % y := by rw [hD, Nat.mul_mod_mul_right, Nat.mul_div_cancel _ h2s]
          have eZ : Z = x / y := by rw [hZ, Nat.mul_div_mul_right _ _ h2s]
          have hDn : D < B16 ^ n2 := by rw [hD]; exact Nat.lt_trans (Nat.mod_lt _ hV0) HV.out.1
          have hZT : Z < B16 ^ T := by rw [hZ]; exact quo_lt HA3'.out.1 HV.out (by omega) (by have := HT.out; have := HQ.out; omega)
          have hq0 := hq.slc (i := 0) (n := T) (by omega)
          have hg0 := hg.slc (i := 0) (n := n2) (by have := HT.out; have := HQ.out; omega)
          rw [Nat.pow_zero, Nat.div_one] at hq0 hg0
          have hT1' := hid (fun (W : World) (hW : Below wr.heap.size wr W) => trim_any (some ⟨w4.heap.size, 0, none⟩) T T Z W (by omega) (Nat.le_refl _) hZT (hq0.below hW))
          have hT2' := hid (fun (W : World) (hW : Below wr.heap.size wr W) => trim_any (some ⟨g4, 0, none⟩) n2 c4 D W (by omega) (by have := HT.out; have := HQ.out; omega) hDn (hg0.below hW))
          have hSh := hid (fun (W : World) (v : Value) (hv : Rep B16 W v D) => NatShr_any v D s W hv (lt_16 hDn (by omega)) hs16)
          have HG := hid (And.intro hq0 (And.intro hg0 (And.intro hB (And.intro eD eZ))))
          have hc4n : n2 ≤ c4 := by have := HT.out; have := HQ.out; omega
          have HS0 : Hid (∀ w', Below wr.heap.size wr w' → (True ∧ Hid (Below wr.heap.size wr w'))) := hid fun w' hb => ⟨trivial, hid hb⟩
          clear hD hZ hg hq hs hB hal5 hq0 hg0 hDn hZT eD eZ h2s hV0
          go_upto_region 19 with fail
          go_region_held3 (fun w' => True ∧ Hid (Below wr.heap.size wr w'))
            (first | exact HS0.out _ (Below.refl _ _).drew | (exact HS0.out _ (by assumption)) | assumption)
            (first
              | (go_at_call_of 96 T; refine (hT1'.out _ (held1' (by assumption))).mono ?_; rintro e wa ⟨mq, rfl, hmq, hlq, rfl⟩)
              | (go_at_call_of 96 c4; refine (hT2'.out _ (held1' (by assumption))).mono ?_; rintro e wb ⟨mr, rfl, hmr, hlr, rfl⟩)
              | (go_at_call 126; refine (hSh.out _ _ ⟨_, _, _, rfl, Nat.le_trans hmr hc4n, hlr, (HG.out.2.1.below (held1' (N := wr.heap.size) (W0 := wr) (by assumption))).take hmr⟩).mono ?_; rintro e wc ⟨vr, rfl, hRr, hBr⟩; have hKr := held_any (held1' (N := wr.heap.size) (W0 := wr) (by assumption)) hBr))
          all_goals
            rename_i hHeld
            clear hHeld
            go_wp2_with fail
            go_ret2
            refine ⟨_, _, rfl, ⟨_, mq, T, rfl, hmq, by rw [← HG.out.2.2.2.2]; exact hlq, by rw [← HG.out.2.2.2.2]; exact (HG.out.1.below hKr).take hmq⟩, by rw [← HG.out.2.2.2.1]; exact hRr, HG.out.2.2.1.trans (hKr.mono HG.out.2.2.1.size)⟩
        · obtain ⟨t, rfl⟩ : ∃ t', t = t' + 1 := ⟨t - 1, by omega⟩
          have e1 : ((t + 1 : Nat) : Int) - 1 = t := by omega
          rw [e1]
          clear e1
          have hb1 : t + n2 + 1 ≤ c4 := by have := HT.out; have := HQ.out.2.2.2.2.2; omega
          have HG := hid (And.intro hD (And.intro hZ (And.intro hg (And.intro hq (And.intro hs hB)))))
          clear hD hZ hg hq hs hB hal5
          go_wp2_with fail
          rw [show t + n2 + 1 - t = n2 + 1 by omega]
          obtain ⟨hD, hZ, hg, hq, hs, hB⟩ := HG.out
          have hV0 : 0 < y * 2 ^ s := HV.out.pos B16_pos (by omega)
          obtain ⟨hp1, hp2⟩ := div_P (A := x * 2 ^ s) (V := y * 2 ^ s) (t := t)
          rw [← hD] at hp1 hp2
          obtain ⟨hs1, hs2, hs3⟩ := divw_step16 (x := x * 2 ^ s) (t := t) hV0 rfl
          have hne1 : b3 ≠ g4 := by have := H4.out.2.2.2; omega
          have hdig := digit_any g4 t n2 (c4 - t) L4 D (y * 2 ^ s) b3 0 c3 wr (by omega) (by omega) (by have := HT.out; have := HQ.out; omega) (by omega) HV2.out.2.2 hne1 hg HV.out hs (by rw [hp1]; exact div_P_lt (Nat.mod_lt _ hV0) (dg_lt B16_pos))
          rw [hp1, hp2] at hdig
          rw [← hZ] at hs2
          have HN := hid (And.intro hs1 (And.intro hs2 hs3))
          have HI := hid (And.intro hq (And.intro hs (And.intro hB hne1)))
          have HDG := hid hdig
          clear hD hZ hg hq hs hB hp1 hp2 hs1 hs2 hs3 hdig HG hV0
          refine HDG.out.mono ?_
          rintro e w6 ⟨rfl, hBut, hU⟩
          have hne2 : w4.heap.size ≠ g4 := by have := HQ.out; omega
          have hq6 := HI.out.1.but hBut hne2
          have hs6 := hBut.slc HI.out.2.2.2 HI.out.2.1
          have hB6 := hBut.below (show w.heap.size ≤ g4 by have := HQ.out; omega) HI.out.2.2.1 HI.out.2.2.1.size
          have hfz := hq6.frozen t
          have hcl := hq6.cell (show t < T by omega)
          have HJ := hid (And.intro hU (And.intro hq6 (And.intro hs6 hB6)))
          clear hBut hU hq6 hs6 hB6
          generalize hqq : ((x * 2 ^ s / B16 ^ (t + 1)) % (y * 2 ^ s) * B16 + dg B16 (x * 2 ^ s) t) / (y * 2 ^ s) = qd at *
          clear hqq
          go_wp2_with fail
          go_roundw
          case rel =>
            have hw4 : w.heap.size ≤ w4.heap.size := H4.out.2.2.1.size
            have hb34 : b3 ≠ w4.heap.size := by have := H4.out.2.2.2; have := HQ.out; omega
            have hst := (But.refl w4.heap.size w6).setCell t (.int .u32 (qd : Nat))
            refine ⟨t, _, _, by omega, rfl, ?_, HN.out.2.1, HJ.out.1.but hst (Ne.symm hne2), HJ.out.2.1.set (by omega) HN.out.1, hst.slc hb34 HJ.out.2.2.1, HJ.out.2.2.2.setCell hw4 _⟩
            rw [HN.out.2.2]
          case measure => simp [intOf]

/-- Division with the rest. -/
theorem NatDiv_any (va vb : Value) (x y : Nat) (w : World) (ha : Rep B16 w va x) (hb : Rep B16 w vb y) (hx : x < B16 ^ 800000000) (hy : y < B16 ^ 800000000) (hy0 : 0 < y) :
    Calls Tryd.prog 98 #[va, vb] w fun e w' => ∃ v1 v2, e = .returned (.tuple #[v1, v2]) ∧ Rep B16 w' v1 (x / y) ∧ Rep B16 w' v2 (x % y) ∧ Below w.heap.size w w' := by
  rcases Nat.lt_or_ge x y with h | h
  · exact NatDiv_less va vb x y w ha hb (lt_16 hx (by omega)) (lt_16 hy (by omega)) h
  · rcases Nat.lt_or_ge y 65536 with h2 | h2
    · exact NatDiv_small va vb x y w ha hb (lt_16 hx (by omega)) h2 hy0 h
    · exact NatDiv_long va vb x y w ha hb hx h2 h
end Go.Proofs.YtdinpeglclkjhaaDoor
