/- The law's helper scaled: both parts times k + 1, and with two words more. -/
import Derived.Test.YtjnfnngobkjneaaGreatDoorDenM
namespace Go.Proofs.YtjnfnngobkjneaaGreatDoor
open Go.RowKit Dg

theorem scaled_ret {W : World} {B : Nat} {x y z : Value} {tm : Array Value} {R : Ending → World → Prop} (h4 : tm[4]?.getD undef = .pointer (some ⟨B, 0, none⟩)) (hV : Var3 W B x y z) (hR : R (.returned (.agg #[x, y, z])) W) :
    bodyPost Tryz.prog Tryz.f16 R .ret { tmps := tm, defers := [] } W := by
  obtain ⟨c0, c1, c2, _, _, _⟩ := hV.cells
  exact bodyPost_ret (v := .agg #[x, y, z]) (by simp [results, Tryz.results16, go_sem, h4, c0, c1, c2]) rfl hR

/-- Between the words. -/
def ORel (w0 : World) (R O L : Nat) (s : Bool) (P : Nat → Option Addr) (N C X : Nat → Nat) (m : Nat) (i : Value) (wr : World) : Prop :=
  ∃ (j : Nat) (p1 : Option Addr) (n1 c1 : Nat) (p2 : Option Addr) (n2 c2 : Nat), j ≤ 2 ∧ i = .int .i64 j ∧ ScSt w0 wr R O L s P N C X (.slice p1 n1 c1) (.slice p2 n2 c2) ∧ (1 ≤ j → RawN wr (.slice p1 n1 c1) (X 0 * m) (N 0 + 2)) ∧ (2 ≤ j → RawN wr (.slice p2 n2 c2) (X 1 * m) (N 1 + 2))
/-- Within one word's digits. -/
def IRel (w1 : World) (x m n : Nat) (v c i : Value) (wr : World) : Prop :=
  ∃ j : Nat, j ≤ n ∧ i = .int .i64 j ∧ c = .int .u64 (cy x m j : Nat) ∧ Own wr w1.heap.size v j (dg W32 (x * m)) ∧ Below w1.heap.size w1 wr
theorem RawN.parts {w : World} {p : Option Addr} {x n c : Nat} (h : RawN w (.slice p n c) x n) : x < W32 ^ n ∧ Slc w p n (dg W32 x) := by
  obtain ⟨_, _, he, _, h1, h2⟩ := h
  cases he
  exact ⟨h1, h2⟩
theorem u64_small {z : Int} (h0 : 0 ≤ z) (h1 : z < 18446744073709551616) : IntKind.u64.wrap z = z := by rw [IntKind.wrap_u64]; omega
theorem RawN.one (w : World) (t : Nat) : RawN (w.alloc (.cells #[.int .u32 1] t)) (.slice (some ⟨w.heap.size, 0, none⟩) 1 1) 1 1 := by
  refine ⟨_, _, rfl, Nat.le_refl _, by decide, fun _ => ⟨_, 0, rfl, fun j hj => ?_⟩⟩
  obtain rfl : j = 0 := by omega
  simp only [World.cell?, heap_alloc_new]
  rfl

set_option maxHeartbeats 4000000 in
set_option maxRecDepth 100000 in
theorem scaled_any (s : Bool) (pn : Option Addr) (nn cn : Nat) (pd : Option Addr) (nd cd : Nat) (xn xd k : Nat) (w : World) (hk : k < 65536) (hn : RawN w (.slice pn nn cn) xn nn) (hd : RawN w (.slice pd nd cd) xd nd) (hn64 : nn ≤ 64) (hd64 : nd ≤ 64) (h0 : 0 < nd) :
    Calls Tryz.prog 16 #[.agg #[.bool s, .slice pn nn cn, .slice pd nd cd], .int .u16 k] w fun e w' => ∃ z, e = .returned z ∧ NRep w' z (s, xn * (k + 1), xd * (k + 1)) ∧ Below w.heap.size w w' := by
  obtain ⟨i0, hi0, hz0, hz1, hz2⟩ := info_parts Tryz.infoU32
  have hb3 := below_alloc3 w (.cells #[.bool s, .slice pn nn cn, .slice pd nd cd] 24) (.cells #[.bool false, .slice none 0 0, .slice none 0 0] 24) (.cells #[.bool s, .slice none 0 0, .slice none 0 0] 24)
  have vr := Var3.alloc2 w (.cells #[.bool s, .slice pn nn cn, .slice pd nd cd] 24) (x := .bool false) (y := .slice none 0 0) (z := .slice none 0 0) 24 trivial trivial trivial
  have vo := Var3.alloc3 w (.cells #[.bool s, .slice pn nn cn, .slice pd nd cd] 24) (.cells #[.bool false, .slice none 0 0, .slice none 0 0] 24) (x := .bool s) (y := .slice none 0 0) (z := .slice none 0 0) 24 trivial trivial trivial
  have hst := ScSt.start (t := 22) hb3 (by omega) (by omega) (by omega) (vr.below ((Below.refl _ _).alloc (Nat.le_refl _) (.cells #[.bool s, .slice none 0 0, .slice none 0 0] 24))) vo (hn.below hb3) (hd.below hb3)
  rw [World.size_alloc, World.size_alloc, World.size_alloc] at hst
  have HST := hid hst
  have hd0 : ((nd : Int) == 0) = false := by simp; omega
  clear hb3 vr vo hst hn hd h0
  go_enter Tryz.func16, Tryz.ntmps16
  go_upto_region 6 with fail
  change Hid (ScSt w _ (w.heap.size + 1) (w.heap.size + 1 + 1) (w.heap.size + 1 + 1 + 1) s _ _ _ _ _ _) at HST
  generalize ((((w.alloc (.cells #[.bool s, .slice pn nn cn, .slice pd nd cd] 24)).alloc (.cells #[.bool false, .slice none 0 0, .slice none 0 0] 24)).alloc (.cells #[.bool s, .slice none 0 0, .slice none 0 0] 24)).alloc (.cells #[.slice pn nn cn, .slice pd nd cd] 22)) = W0 at *
  generalize w.heap.size + 1 + 1 + 1 = L at *
  generalize w.heap.size + 1 + 1 = O at *
  generalize w.heap.size + 1 = R at *
  go_loopw [27] (fun i wr => ORel w R O L s (sel pn pd) (sel nn nd) (sel cn cd) (sel xn xd) (k + 1) i wr) (fun i _ => 2 - (intOf i).toNat)
  case atStart => exact ⟨0, none, 0, 0, none, 0, 0, by omega, rfl, HST.out, fun h => absurd h (by omega), fun h => absurd h (by omega)⟩
  case round =>
    rename World => wo
    obtain ⟨j, p1, n1, c1, p2, n2, c2, hj, rfl, hst, hr1, hr2⟩ := hrel
    by_cases hlt : j < 2
    · have hcell := hst.l j hlt
      have hraw := hst.w j hlt
      have HS := hid (And.intro hst (And.intro hr1 hr2))
      have hN : sel nn nd j ≤ 64 := by unfold sel; split <;> assumption
      obtain ⟨p, hp⟩ : ∃ p, p = sel pn pd j := ⟨_, rfl⟩
      obtain ⟨n, hn⟩ : ∃ n, n = sel nn nd j := ⟨_, rfl⟩
      obtain ⟨c, hc⟩ : ∃ c, c = sel cn cd j := ⟨_, rfl⟩
      obtain ⟨x, hx⟩ : ∃ x, x = sel xn xd j := ⟨_, rfl⟩
      rw [← hp, ← hn, ← hc] at hcell
      rw [← hp, ← hn, ← hc, ← hx] at hraw
      rw [← hn] at hN
      have HE := hid (And.intro hn hx)
      have HX := hid hraw.parts
      have hdj : decide ((j : Int) < 2) = true := by simp; omega
      clear hst hr1 hr2 hp hn hc hx hraw
      go_wp2_with fail
      clear hcell
      go_loopw [9, 10, 34] (fun v c i wi => IRel wo x (k + 1) n v c i wi) (fun _ _ i _ => n - (intOf i).toNat)
      case atStart => exact ⟨0, by omega, rfl, by rw [cy_zero]; rfl, Own.nil _ _ _, Below.refl _ _⟩
      case round =>
        obtain ⟨i, hi, rfl, rfl, hown, hB⟩ := hrel
        have hsize := hB.size
        have hown1 := fun q hq => (World.ownsRow.lt hown q hq).1
        have hcl := cy_lt (x := x) (j := i) (show 0 < k + 1 by omega)
        by_cases hil : i < n
        · have hsl := HX.out.2.below hB
          obtain ⟨b0, o0, rfl, hc0⟩ := hsl (by omega)
          have hc1 := hc0 i hil
          have hd := dg_u32 x i
          have hstep := hid (cy_step x (k + 1) i)
          generalize dg W32 x i = d at *
          generalize cy x (k + 1) i = cc at *
          have hdk : d * (k + 1) ≤ 4294967295 * 65536 := Nat.mul_le_mul (by omega) (by omega)
          have hk1 : IntKind.u64.wrap ((k : Int) + 1) = (k : Int) + 1 := u64_small (by omega) (by omega)
          obtain ⟨M, hM⟩ : ∃ M, M = d * (k + 1) := ⟨_, rfl⟩
          have hMi : (d : Int) * ((k : Int) + 1) = (M : Int) := by rw [hM]; push_cast; rfl
          rw [← hM] at hstep hdk
          have hal := (show wr.ownsRow wo.heap.size 58 1 u9 i ((List.range i).map (fun j => Value.int .u32 (dg W32 (x * (k + 1)) j : Nat))) from hown).alloc (.cells #[.int .u32 (((cc : Int) + (M : Int)) % 4294967296)] 58)
          have HA := hid (And.intro hal (And.intro hB hown1))
          clear hal hown hB hown1 hsl hc0 hM
          go_wp2_with (first
            | (at_builtin; refine wpList_append_own _ rfl _ _ 22 rfl wo.heap.size 58 i0 (.int .u32 0) 1 4 Tryz.underlying22 hi0 hz0 hz1 hz2 rfl (by decide) _ _ _ rfl HA.out.1 ⟨wr.heap.size, 0, none⟩ 1 1 [.int .u32 (((cc : Int) + (M : Int)) % 4294967296)] rfl rfl (cell_one_new _ _ _) (fun x hx => by simp at hx; subst hx; rfl) (by unfold maxLen; omega) (by omega) (by simp; omega) ?_; intro v' w3 hown' hgrow3 hnil3))
          refine ⟨⟨i + 1, by omega, by go_num, congrArg (Value.int .u64) (by rw [← hstep.out.2, W32_val]; omega), Own.push hown' (by rw [← hstep.out.1, W32_val]; omega), ?_⟩, by simp only [intOf]; omega⟩
          exact (HA.out.2.1.alloc hsize _).grown (show (wr.alloc _).grownBy w3 u9.ownBlock from hgrow3) (by rw [World.size_alloc]; omega) HA.out.2.2
        · obtain rfl : i = n := by omega
          have hce := cy_end (x := x) (m := k + 1) HX.out.1 (by omega) (by omega)
          have HC := hid hce
          have hcl2 : cy x (k + 1) i < 65536 := by omega
          generalize cy x (k + 1) i = cc at *
          have hcw : ((cc : Int) % 4294967296) = (cc : Int) := by omega
          have hal := (show wr.ownsRow wo.heap.size 58 1 u9 i ((List.range i).map (fun j => Value.int .u32 (dg W32 (x * (k + 1)) j : Nat))) from hown).alloc (.cells #[.int .u32 (cc : Int), .int .u32 0] 58)
          have HA := hid (And.intro hal (And.intro hB hown1))
          have Hbl := hid (World.news_of_block (heap_alloc_new wr (.cells #[.int .u32 (cc : Int), .int .u32 0] 58)))
          clear hal hown hB hown1 hce
          have hjj : (((j : Int) == 0) = true ∧ j = 0) ∨ (((j : Int) == 0) = false ∧ j = 1) := by
            rcases (show j = 0 ∨ j = 1 by omega) with rfl | rfl
            · exact .inl ⟨rfl, rfl⟩
            · exact .inr ⟨rfl, rfl⟩
          rcases hjj with ⟨hj0, hj1⟩ | ⟨hj0, hj1⟩
          all_goals
            have HJ := hid hj1
            clear hj1
            go_wp2_with (first
              | (at_builtin; refine wpList_append_own _ rfl _ _ 22 rfl wo.heap.size 58 i0 (.int .u32 0) 1 4 Tryz.underlying22 hi0 hz0 hz1 hz2 rfl (by decide) _ _ _ rfl HA.out.1 ⟨wr.heap.size, 0, none⟩ 2 2 [.int .u32 (cc : Int), .int .u32 0] rfl rfl Hbl.out (fun x hx => by simp at hx; rcases hx with rfl | rfl <;> rfl) (by unfold maxLen; omega) (by omega) (by simp; omega) ?_; intro v' w3 hown' hgrow3 hnil3; have hb3 : Below wo.heap.size wo w3 := (HA.out.2.1.alloc hsize _).grown (show (wr.alloc _).grownBy w3 u9.ownBlock from hgrow3) (by rw [World.size_alloc]; omega) HA.out.2.2; have hp : Own w3 wo.heap.size v' (i + 2) (dg W32 (x * (k + 1))) := Own.push2 (n := i) hown' (by rw [HC.out.1]) (by rw [HC.out.2.1]; rfl); obtain ⟨p', cp', rfl, hcp, hsl⟩ := hp.slc; have HP := hid (And.intro hcp (And.intro hsl hb3)); obtain ⟨x0, x1, x2, y0, y1, y2⟩ := (HS.out.1.below hb3).o.cells; clear hown' hgrow3 hnil3 hp hcp hsl hb3))
          · have st := HS.out.1.below HP.out.2.2
            have hR : RawN w3 (.slice p' (i + 2) cp') (x * (k + 1)) (i + 2) := ⟨p', cp', rfl, HP.out.1, HC.out.2.2, HP.out.2.1⟩
            have he := HE.out
            rw [HJ.out] at he
            have hj2 := HJ.out
            exact ⟨⟨j + 1, p', i + 2, cp', p2, n2, c2, by omega, by go_num, st.setA trivial, fun _ => by rw [← he.1, ← he.2]; exact hR.set1 st.o 1 _, fun h => absurd h (by omega)⟩, by simp only [intOf]; omega⟩
          · have st := HS.out.1.below HP.out.2.2
            have hR : RawN w3 (.slice p' (i + 2) cp') (x * (k + 1)) (i + 2) := ⟨p', cp', rfl, HP.out.1, HC.out.2.2, HP.out.2.1⟩
            have he := HE.out
            rw [HJ.out] at he
            have hj2 := HJ.out
            exact ⟨⟨j + 1, p1, n1, c1, p', i + 2, cp', by omega, by go_num, st.setB trivial, fun _ => ((HS.out.2.1 (by omega)).below HP.out.2.2).set1 st.o 2 _, fun _ => by rw [← he.1, ← he.2]; exact hR.set1 st.o 2 _⟩, by simp only [intOf]; omega⟩
    · obtain rfl : j = 2 := by omega
      obtain ⟨x0, x1, x2, y0, y1, y2⟩ := hst.o.cells
      obtain ⟨z0, z1, z2, v0, v1, v2⟩ := hst.r.cells
      have HS := hid (And.intro hst (And.intro (hr1 (by omega)) (hr2 (by omega))))
      clear hst hr1 hr2
      go_wp2_with fail
      refine scaled_ret rfl (HS.out.1.r.store trivial trivial trivial) ⟨_, rfl, ⟨_, _, rfl, (HS.out.2.1.store3 HS.out.1.r _ _ _).raw ?_, (HS.out.2.2.store3 HS.out.1.r _ _ _).raw ?_⟩, below_set3 HS.out.1.b HS.out.1.hr⟩
      · show nn + 2 ≤ 1000; omega
      · show nd + 2 ≤ 1000; omega

set_option maxHeartbeats 4000000 in
set_option maxRecDepth 100000 in
theorem scaled_zero (s : Bool) (pn : Option Addr) (nn cn : Nat) (pd : Option Addr) (cd : Nat) (xn k : Nat) (w : World) (hk : k < 65536) (hn : RawN w (.slice pn nn cn) xn nn) (hn64 : nn ≤ 64) :
    Calls Tryz.prog 16 #[.agg #[.bool s, .slice pn nn cn, .slice pd 0 cd], .int .u16 k] w fun e w' => ∃ z, e = .returned z ∧ NRep w' z (s, xn * (k + 1), 1 * (k + 1)) ∧ Below w.heap.size w w' := by
  obtain ⟨i0, hi0, hz0, hz1, hz2⟩ := info_parts Tryz.infoU32
  have hd64 : 1 ≤ 64 := by omega
  have hb4 := below_alloc4 w (.cells #[.bool s, .slice pn nn cn, .slice pd 0 cd] 24) (.cells #[.bool false, .slice none 0 0, .slice none 0 0] 24) (.cells #[.bool s, .slice none 0 0, .slice none 0 0] 24) (.cells #[.int .u32 1] 58)
  have vr := (Var3.alloc2 w (.cells #[.bool s, .slice pn nn cn, .slice pd 0 cd] 24) (x := .bool false) (y := .slice none 0 0) (z := .slice none 0 0) 24 trivial trivial trivial).below ((Below.refl _ _).alloc (Nat.le_refl _) (.cells #[.bool s, .slice none 0 0, .slice none 0 0] 24))
  have vo := Var3.alloc3 w (.cells #[.bool s, .slice pn nn cn, .slice pd 0 cd] 24) (.cells #[.bool false, .slice none 0 0, .slice none 0 0] 24) (x := .bool s) (y := .slice none 0 0) (z := .slice none 0 0) 24 trivial trivial trivial
  have rd := RawN.one (((w.alloc (.cells #[.bool s, .slice pn nn cn, .slice pd 0 cd] 24)).alloc (.cells #[.bool false, .slice none 0 0, .slice none 0 0] 24)).alloc (.cells #[.bool s, .slice none 0 0, .slice none 0 0] 24)) 58
  rw [World.size_alloc, World.size_alloc, World.size_alloc] at rd
  have hst := ScSt.start (t := 22) hb4 (by omega) (by omega) (by omega) (vr.below ((Below.refl _ _).alloc (Nat.le_refl _) (.cells #[.int .u32 1] 58))) (vo.below ((Below.refl _ _).alloc (Nat.le_refl _) (.cells #[.int .u32 1] 58))) (hn.below hb4) rd
  rw [World.size_alloc, World.size_alloc, World.size_alloc, World.size_alloc] at hst
  have HST := hid hst
  clear hb4 vr vo hst hn rd
  go_enter Tryz.func16, Tryz.ntmps16
  go_upto_region 6 with fail
  change Hid (ScSt w _ (w.heap.size + 1) (w.heap.size + 1 + 1) (w.heap.size + 1 + 1 + 1 + 1) s _ _ _ _ _ _) at HST
  generalize (((((w.alloc (.cells #[.bool s, .slice pn nn cn, .slice pd 0 cd] 24)).alloc (.cells #[.bool false, .slice none 0 0, .slice none 0 0] 24)).alloc (.cells #[.bool s, .slice none 0 0, .slice none 0 0] 24)).alloc (.cells #[.int .u32 1] 58)).alloc (.cells #[.slice pn nn cn, .slice (some ⟨w.heap.size + 1 + 1 + 1, 0, none⟩) 1 1] 22)) = W0 at *
  generalize w.heap.size + 1 + 1 + 1 + 1 = L at *
  generalize w.heap.size + 1 + 1 + 1 = D at *
  generalize w.heap.size + 1 + 1 = O at *
  generalize w.heap.size + 1 = R at *
  go_loopw [27] (fun i wr => ORel w R O L s (sel pn (some ⟨D, 0, none⟩)) (sel nn 1) (sel cn 1) (sel xn 1) (k + 1) i wr) (fun i _ => 2 - (intOf i).toNat)
  case atStart => exact ⟨0, none, 0, 0, none, 0, 0, by omega, rfl, HST.out, fun h => absurd h (by omega), fun h => absurd h (by omega)⟩
  case round =>
    rename World => wo
    obtain ⟨j, p1, n1, c1, p2, n2, c2, hj, rfl, hst, hr1, hr2⟩ := hrel
    by_cases hlt : j < 2
    · have hcell := hst.l j hlt
      have hraw := hst.w j hlt
      have HS := hid (And.intro hst (And.intro hr1 hr2))
      have hN : sel nn 1 j ≤ 64 := by unfold sel; split <;> assumption
      obtain ⟨p, hp⟩ : ∃ p, p = sel pn (some ⟨D, 0, none⟩) j := ⟨_, rfl⟩
      obtain ⟨n, hn⟩ : ∃ n, n = sel nn 1 j := ⟨_, rfl⟩
      obtain ⟨c, hc⟩ : ∃ c, c = sel cn 1 j := ⟨_, rfl⟩
      obtain ⟨x, hx⟩ : ∃ x, x = sel xn 1 j := ⟨_, rfl⟩
      rw [← hp, ← hn, ← hc] at hcell
      rw [← hp, ← hn, ← hc, ← hx] at hraw
      rw [← hn] at hN
      have HE := hid (And.intro hn hx)
      have HX := hid hraw.parts
      have hdj : decide ((j : Int) < 2) = true := by simp; omega
      clear hst hr1 hr2 hp hn hc hx hraw
      go_wp2_with fail
      clear hcell
      go_loopw [9, 10, 34] (fun v c i wi => IRel wo x (k + 1) n v c i wi) (fun _ _ i _ => n - (intOf i).toNat)
      case atStart => exact ⟨0, by omega, rfl, by rw [cy_zero]; rfl, Own.nil _ _ _, Below.refl _ _⟩
      case round =>
        obtain ⟨i, hi, rfl, rfl, hown, hB⟩ := hrel
        have hsize := hB.size
        have hown1 := fun q hq => (World.ownsRow.lt hown q hq).1
        have hcl := cy_lt (x := x) (j := i) (show 0 < k + 1 by omega)
        by_cases hil : i < n
        · have hsl := HX.out.2.below hB
          obtain ⟨b0, o0, rfl, hc0⟩ := hsl (by omega)
          have hc1 := hc0 i hil
          have hd := dg_u32 x i
          have hstep := hid (cy_step x (k + 1) i)
          generalize dg W32 x i = d at *
          generalize cy x (k + 1) i = cc at *
          have hdk : d * (k + 1) ≤ 4294967295 * 65536 := Nat.mul_le_mul (by omega) (by omega)
          have hk1 : IntKind.u64.wrap ((k : Int) + 1) = (k : Int) + 1 := u64_small (by omega) (by omega)
          obtain ⟨M, hM⟩ : ∃ M, M = d * (k + 1) := ⟨_, rfl⟩
          have hMi : (d : Int) * ((k : Int) + 1) = (M : Int) := by rw [hM]; push_cast; rfl
          rw [← hM] at hstep hdk
          have hal := (show wr.ownsRow wo.heap.size 58 1 u9 i ((List.range i).map (fun j => Value.int .u32 (dg W32 (x * (k + 1)) j : Nat))) from hown).alloc (.cells #[.int .u32 (((cc : Int) + (M : Int)) % 4294967296)] 58)
          have HA := hid (And.intro hal (And.intro hB hown1))
          clear hal hown hB hown1 hsl hc0 hM
          go_wp2_with (first
            | (at_builtin; refine wpList_append_own _ rfl _ _ 22 rfl wo.heap.size 58 i0 (.int .u32 0) 1 4 Tryz.underlying22 hi0 hz0 hz1 hz2 rfl (by decide) _ _ _ rfl HA.out.1 ⟨wr.heap.size, 0, none⟩ 1 1 [.int .u32 (((cc : Int) + (M : Int)) % 4294967296)] rfl rfl (cell_one_new _ _ _) (fun x hx => by simp at hx; subst hx; rfl) (by unfold maxLen; omega) (by omega) (by simp; omega) ?_; intro v' w3 hown' hgrow3 hnil3))
          refine ⟨⟨i + 1, by omega, by go_num, congrArg (Value.int .u64) (by rw [← hstep.out.2, W32_val]; omega), Own.push hown' (by rw [← hstep.out.1, W32_val]; omega), ?_⟩, by simp only [intOf]; omega⟩
          exact (HA.out.2.1.alloc hsize _).grown (show (wr.alloc _).grownBy w3 u9.ownBlock from hgrow3) (by rw [World.size_alloc]; omega) HA.out.2.2
        · obtain rfl : i = n := by omega
          have hce := cy_end (x := x) (m := k + 1) HX.out.1 (by omega) (by omega)
          have HC := hid hce
          have hcl2 : cy x (k + 1) i < 65536 := by omega
          generalize cy x (k + 1) i = cc at *
          have hcw : ((cc : Int) % 4294967296) = (cc : Int) := by omega
          have hal := (show wr.ownsRow wo.heap.size 58 1 u9 i ((List.range i).map (fun j => Value.int .u32 (dg W32 (x * (k + 1)) j : Nat))) from hown).alloc (.cells #[.int .u32 (cc : Int), .int .u32 0] 58)
          have HA := hid (And.intro hal (And.intro hB hown1))
          have Hbl := hid (World.news_of_block (heap_alloc_new wr (.cells #[.int .u32 (cc : Int), .int .u32 0] 58)))
          clear hal hown hB hown1 hce
          have hjj : (((j : Int) == 0) = true ∧ j = 0) ∨ (((j : Int) == 0) = false ∧ j = 1) := by
            rcases (show j = 0 ∨ j = 1 by omega) with rfl | rfl
            · exact .inl ⟨rfl, rfl⟩
            · exact .inr ⟨rfl, rfl⟩
          rcases hjj with ⟨hj0, hj1⟩ | ⟨hj0, hj1⟩
          all_goals
            have HJ := hid hj1
            clear hj1
            go_wp2_with (first
              | (at_builtin; refine wpList_append_own _ rfl _ _ 22 rfl wo.heap.size 58 i0 (.int .u32 0) 1 4 Tryz.underlying22 hi0 hz0 hz1 hz2 rfl (by decide) _ _ _ rfl HA.out.1 ⟨wr.heap.size, 0, none⟩ 2 2 [.int .u32 (cc : Int), .int .u32 0] rfl rfl Hbl.out (fun x hx => by simp at hx; rcases hx with rfl | rfl <;> rfl) (by unfold maxLen; omega) (by omega) (by simp; omega) ?_; intro v' w3 hown' hgrow3 hnil3; have hb3 : Below wo.heap.size wo w3 := (HA.out.2.1.alloc hsize _).grown (show (wr.alloc _).grownBy w3 u9.ownBlock from hgrow3) (by rw [World.size_alloc]; omega) HA.out.2.2; have hp : Own w3 wo.heap.size v' (i + 2) (dg W32 (x * (k + 1))) := Own.push2 (n := i) hown' (by rw [HC.out.1]) (by rw [HC.out.2.1]; rfl); obtain ⟨p', cp', rfl, hcp, hsl⟩ := hp.slc; have HP := hid (And.intro hcp (And.intro hsl hb3)); obtain ⟨x0, x1, x2, y0, y1, y2⟩ := (HS.out.1.below hb3).o.cells; clear hown' hgrow3 hnil3 hp hcp hsl hb3))
          · have st := HS.out.1.below HP.out.2.2
            have hR : RawN w3 (.slice p' (i + 2) cp') (x * (k + 1)) (i + 2) := ⟨p', cp', rfl, HP.out.1, HC.out.2.2, HP.out.2.1⟩
            have he := HE.out
            rw [HJ.out] at he
            have hj2 := HJ.out
            exact ⟨⟨j + 1, p', i + 2, cp', p2, n2, c2, by omega, by go_num, st.setA trivial, fun _ => by rw [← he.1, ← he.2]; exact hR.set1 st.o 1 _, fun h => absurd h (by omega)⟩, by simp only [intOf]; omega⟩
          · have st := HS.out.1.below HP.out.2.2
            have hR : RawN w3 (.slice p' (i + 2) cp') (x * (k + 1)) (i + 2) := ⟨p', cp', rfl, HP.out.1, HC.out.2.2, HP.out.2.1⟩
            have he := HE.out
            rw [HJ.out] at he
            have hj2 := HJ.out
            exact ⟨⟨j + 1, p1, n1, c1, p', i + 2, cp', by omega, by go_num, st.setB trivial, fun _ => ((HS.out.2.1 (by omega)).below HP.out.2.2).set1 st.o 2 _, fun _ => by rw [← he.1, ← he.2]; exact hR.set1 st.o 2 _⟩, by simp only [intOf]; omega⟩
    · obtain rfl : j = 2 := by omega
      obtain ⟨x0, x1, x2, y0, y1, y2⟩ := hst.o.cells
      obtain ⟨z0, z1, z2, v0, v1, v2⟩ := hst.r.cells
      have HS := hid (And.intro hst (And.intro (hr1 (by omega)) (hr2 (by omega))))
      clear hst hr1 hr2
      go_wp2_with fail
      refine scaled_ret rfl (HS.out.1.r.store trivial trivial trivial) ⟨_, rfl, ⟨_, _, rfl, (HS.out.2.1.store3 HS.out.1.r _ _ _).raw ?_, (HS.out.2.2.store3 HS.out.1.r _ _ _).raw ?_⟩, below_set3 HS.out.1.b HS.out.1.hr⟩
      · show nn + 2 ≤ 1000; omega
      · show 1 + 2 ≤ 1000; omega
end Go.Proofs.YtjnfnngobkjneaaGreatDoor
