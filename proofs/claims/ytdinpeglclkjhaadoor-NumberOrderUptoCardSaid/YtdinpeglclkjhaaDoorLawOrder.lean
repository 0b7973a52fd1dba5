/- The law NumberOrder. -/
import Derived.Test.YtdinpeglclkjhaaDoorLawA
import Derived.Test.YtdinpeglclkjhaaDoorOrderA
import Derived.Deep.CutRange
namespace Go.Proofs.YtdinpeglclkjhaaDoor
open Go.RowKit Dg

set_option maxHeartbeats 40000000 in
set_option maxRecDepth 100000 in
theorem NumberOrder_any (vx vy vz : Value) (x y z : Bool × Nat × Nat) (w : World) (hx : NRep w vx x) (hy : NRep w vy y) (hz : NRep w vz z) (ht : TabOk w) :
    Calls Tryd.prog 14 #[vx, vy, vz] w fun e w' => e = .returned (.bool true) ∧ Below w.heap.size w w' := by
  have Hx := hid hx
  obtain ⟨_, _, rfl, ⟨pax, kax, cax, rfl, _⟩, ⟨pbx, kbx, cbx, rfl, _⟩⟩ := hx
  have Hy := hid hy
  obtain ⟨_, _, rfl, ⟨pay, kay, cay, rfl, _⟩, ⟨pby, kby, cby, rfl, _⟩⟩ := hy
  have Hz := hid hz
  obtain ⟨_, _, rfl, ⟨paz, kaz, caz, rfl, _⟩, ⟨pbz, kbz, cbz, rfl, _⟩⟩ := hz
  have HT := hid ht
  clear ht
  go_enter Tryd.func14, Tryd.ntmps14
  go_upto_region 1 with fail
  have hB0 := below_alloc3 w (.cells #[.bool x.1, .slice pax kax cax, .slice pbx kbx cbx] 24) (.cells #[.bool y.1, .slice pay kay cay, .slice pby kby cby] 24) (.cells #[.bool z.1, .slice paz kaz caz, .slice pbz kbz cbz] 24)
  have Vx := ((Var3.alloc w (x := .bool x.1) (y := .slice pax kax cax) (z := .slice pbx kbx cbx) 24 trivial trivial trivial).below ((Below.refl _ _).alloc (Nat.le_refl _) (.cells #[.bool y.1, .slice pay kay cay, .slice pby kby cby] 24))).below ((Below.refl _ _).alloc (Nat.le_refl _) (.cells #[.bool z.1, .slice paz kaz caz, .slice pbz kbz cbz] 24))
  have Vy := (Var3.alloc2 w (.cells #[.bool x.1, .slice pax kax cax, .slice pbx kbx cbx] 24) (x := .bool y.1) (y := .slice pay kay cay) (z := .slice pby kby cby) 24 trivial trivial trivial).below ((Below.refl _ _).alloc (Nat.le_refl _) (.cells #[.bool z.1, .slice paz kaz caz, .slice pbz kbz cbz] 24))
  have Vz := (Var3.alloc3 w (.cells #[.bool x.1, .slice pax kax cax, .slice pbx kbx cbx] 24) (.cells #[.bool y.1, .slice pay kay cay, .slice pby kby cby] 24) (x := .bool z.1) (y := .slice paz kaz caz) (z := .slice pbz kbz cbz) 24 trivial trivial trivial)
  generalize ((w.alloc (.cells #[.bool x.1, .slice pax kax cax, .slice pbx kbx cbx] 24)).alloc (.cells #[.bool y.1, .slice pay kay cay, .slice pby kby cby] 24)).alloc (.cells #[.bool z.1, .slice paz kaz caz, .slice pbz kbz cbz] 24) = W0 at *
  have HVx := hid Vx
  have HRx := hid (Hx.out.below hB0)
  clear Vx Hx
  have HVy := hid Vy
  have HRy := hid (Hy.out.below hB0)
  clear Vy Hy
  have HVz := hid Vz
  have HRz := hid (Hz.out.below hB0)
  clear Vz Hz
  have HT0 := hid (HT.out.below hB0)
  have HB := hid hB0
  clear HT hB0
  obtain ⟨a, hQ⟩ : ∃ c, c = cmt x y := ⟨_, rfl⟩
  obtain ⟨e1, hE⟩ : ∃ c, c = cmc x y := ⟨_, rfl⟩
  have HC := hid (nCompare_any _ _ _ _ W0 HRx.out HRy.out HT0.out)
  rw [← hE, ← hQ] at HC
  have He1 := hid hE
  have Ha := hid hQ
  clear hE hQ
  obtain ⟨a0, a1, a2, _⟩ := HVx.out.cells
  obtain ⟨b0, b1, b2, _⟩ := HVy.out.cells
  go_wp2_with fail
  refine HC.out.mono ?_
  rintro e w1 ⟨rfl, hst⟩
  clear HC a0 a1 a2 b0 b1 b2
  replace HVx := hid (HVx.out.below hst)
  replace HRx := hid (HRx.out.below hst)
  replace HVy := hid (HVy.out.below hst)
  replace HRy := hid (HRy.out.below hst)
  replace HVz := hid (HVz.out.below hst)
  replace HRz := hid (HRz.out.below hst)
  replace HT0 := hid (HT0.out.below hst)
  replace HB := hid (HB.out.trans (hst.mono HB.out.size))
  clear hst
  go_upto_region 2 with fail
  obtain ⟨b, hQ⟩ : ∃ c, c = cmt y z := ⟨_, rfl⟩
  obtain ⟨e2, hE⟩ : ∃ c, c = cmc y z := ⟨_, rfl⟩
  have HC := hid (nCompare_any _ _ _ _ w1 HRy.out HRz.out HT0.out)
  rw [← hE, ← hQ] at HC
  have He2 := hid hE
  have Hb := hid hQ
  clear hE hQ
  obtain ⟨a0, a1, a2, _⟩ := HVy.out.cells
  obtain ⟨b0, b1, b2, _⟩ := HVz.out.cells
  go_wp2_with fail
  refine HC.out.mono ?_
  rintro e w2 ⟨rfl, hst⟩
  clear HC a0 a1 a2 b0 b1 b2
  replace HVx := hid (HVx.out.below hst)
  replace HRx := hid (HRx.out.below hst)
  replace HVy := hid (HVy.out.below hst)
  replace HRy := hid (HRy.out.below hst)
  replace HVz := hid (HVz.out.below hst)
  replace HRz := hid (HRz.out.below hst)
  replace HT0 := hid (HT0.out.below hst)
  replace HB := hid (HB.out.trans (hst.mono HB.out.size))
  clear hst
  go_upto_region 3 with fail
  obtain ⟨c, hQ⟩ : ∃ c, c = cmt x z := ⟨_, rfl⟩
  obtain ⟨e3, hE⟩ : ∃ c, c = cmc x z := ⟨_, rfl⟩
  have HC := hid (nCompare_any _ _ _ _ w2 HRx.out HRz.out HT0.out)
  rw [← hE, ← hQ] at HC
  have He3 := hid hE
  have Hc := hid hQ
  clear hE hQ
  obtain ⟨a0, a1, a2, _⟩ := HVx.out.cells
  obtain ⟨b0, b1, b2, _⟩ := HVz.out.cells
  go_wp2_with fail
  refine HC.out.mono ?_
  rintro e w3 ⟨rfl, hst⟩
  clear HC a0 a1 a2 b0 b1 b2
  replace HVx := hid (HVx.out.below hst)
  replace HRx := hid (HRx.out.below hst)
  replace HVy := hid (HVy.out.below hst)
  replace HRy := hid (HRy.out.below hst)
  replace HVz := hid (HVz.out.below hst)
  replace HRz := hid (HRz.out.below hst)
  replace HT0 := hid (HT0.out.below hst)
  replace HB := hid (HB.out.trans (hst.mono HB.out.size))
  clear hst
  go_upto_region 4 with fail
  by_cases hall : e1 = 0 ∧ e2 = 0 ∧ e3 = 0
  case neg =>
    have hA := hid (fun (W : World) (hW : Below w3.heap.size w3 W) => awake_any W (HT0.out.below hW))
    have hcase : e1 = 1 ∨ (e1 = 0 ∧ e2 = 1) := by have h := order_err (x := x) (y := y) (z := z); rw [← He1.out, ← He2.out, ← He3.out] at h; exact h hall
    clear hall
    rcases hcase with rfl | ⟨rfl, rfl⟩
    all_goals
      go_wp2_with fail
      refine (hA.out _ (Below.refl _ _)).mono ?_
      rintro e wr ⟨rfl, hBr⟩
      have hZ := hid (HB.out.trans (hBr.mono HB.out.size))
      clear hA hBr
      go_wp2_with fail
      go_ret
      exact ⟨rfl, hZ.out⟩
  case pos =>
    obtain ⟨rfl, rfl, rfl⟩ := hall
    go_upto_region 6 with fail
    obtain ⟨bk, hQ⟩ : ∃ c, c = cmt y x := ⟨_, rfl⟩
    obtain ⟨e9, hE⟩ : ∃ c, c = cmc y x := ⟨_, rfl⟩
    have HC := hid (nCompare_any _ _ _ _ w3 HRy.out HRx.out HT0.out)
    rw [← hE, ← hQ] at HC
    have He9 := hid hE
    have Hbk := hid hQ
    clear hE hQ
    obtain ⟨a0, a1, a2, _⟩ := HVy.out.cells
    obtain ⟨b0, b1, b2, _⟩ := HVx.out.cells
    go_wp2_with fail
    refine HC.out.mono ?_
    rintro e w4 ⟨rfl, hst⟩
    clear HC a0 a1 a2 b0 b1 b2
    replace HVx := hid (HVx.out.below hst)
    replace HRx := hid (HRx.out.below hst)
    replace HVy := hid (HVy.out.below hst)
    replace HRy := hid (HRy.out.below hst)
    replace HVz := hid (HVz.out.below hst)
    replace HRz := hid (HRz.out.below hst)
    replace HT0 := hid (HT0.out.below hst)
    replace HB := hid (HB.out.trans (hst.mono HB.out.size))
    clear hst
    go_upto_region 7 with fail
    have htri := order_tri He1.out.symm He2.out.symm He3.out.symm
    rw [← Ha.out, ← Hb.out, ← Hc.out] at htri
    have hbk : bk = -a := by rw [Ha.out, Hbk.out]; exact order_back He1.out.symm
    have Htri := hid htri
    have Hbk2 := hid hbk
    clear htri hbk
    go_cut [99] from 68 to 99 (fun v wx => v = .bool false ∧ Hid (Below w4.heap.size w4 wx))
    case first =>
      obtain ⟨ha, hb, hc, t1, t2, t3⟩ := Htri.out
      have hbk := Hbk2.out
      clear Htri Hbk2
      rcases ha with rfl | rfl | rfl <;> rcases hb with rfl | rfl | rfl <;> rcases hc with rfl | rfl | rfl <;> first | (exfalso; revert t1 t2 t3; decide) | skip
      all_goals
        clear t1 t2 t3
        subst hbk
        go_wp2_with fail
        go_meet
        case rel => exact ⟨rfl, hid (Below.refl _ _)⟩
    case rest =>
      obtain ⟨W20, hWk⟩ : ∃ W, W = wc := ⟨_, rfl⟩
      subst hWk
      obtain ⟨rfl, hst⟩ := hcut
      replace hst := hst.out
      clear Htri Hbk2
      replace HVx := hid (HVx.out.below hst)
      replace HRx := hid (HRx.out.below hst)
      replace HVy := hid (HVy.out.below hst)
      replace HRy := hid (HRy.out.below hst)
      replace HVz := hid (HVz.out.below hst)
      replace HRz := hid (HRz.out.below hst)
      replace HT0 := hid (HT0.out.below hst)
      replace HB := hid (HB.out.trans (hst.mono HB.out.size))
      clear hst
      go_upto_region 9 with fail
      obtain ⟨e4, hE⟩ : ∃ c, c = subc x y := ⟨_, rfl⟩
      have HC := hid (nSub_u _ _ _ _ W20 HRx.out HRy.out HT0.out)
      rw [← hE] at HC
      have He4 := hid hE
      clear hE
      obtain ⟨a0, a1, a2, _⟩ := HVx.out.cells
      obtain ⟨b0, b1, b2, _⟩ := HVy.out.cells
      go_wp2_with fail
      refine HC.out.mono ?_
      rintro e w5 ⟨hB, sd, pad, kad, cad, pbd, kbd, cbd, rfl, hF⟩
      clear HC a0 a1 a2 b0 b1 b2
      go_upto_region 10 with fail
      have hal := (Below.refl w5.heap.size w5).alloc (Nat.le_refl _) (.cells #[.bool sd, .slice pad kad cad, .slice pbd kbd cbd] 24)
      have hV := Var3.alloc w5 (x := .bool sd) (y := .slice pad kad cad) (z := .slice pbd kbd cbd) 24 trivial trivial trivial
      have hst := held_any hB hal
      have hF2 := hid (hF.out.below hal)
      clear hB hal hF
      generalize w5.alloc (.cells #[.bool sd, .slice pad kad cad, .slice pbd kbd cbd] 24) = W5 at *
      generalize w5.heap.size = Bd at *
      replace HVx := hid (HVx.out.below hst)
      replace HRx := hid (HRx.out.below hst)
      replace HVy := hid (HVy.out.below hst)
      replace HRy := hid (HRy.out.below hst)
      replace HVz := hid (HVz.out.below hst)
      replace HRz := hid (HRz.out.below hst)
      replace HT0 := hid (HT0.out.below hst)
      replace HB := hid (HB.out.trans (hst.mono HB.out.size))
      clear hst
      have HVd := hid hV
      have HRd := hF2
      clear hV hF2
      obtain ⟨s, hQ⟩ : ∃ c, c = sgt (subt x y) := ⟨_, rfl⟩
      obtain ⟨e5, hE⟩ : ∃ c, c = sgc (subt x y) := ⟨_, rfl⟩
      have HC := hid (nSign_any _ _ W5 HRd.out HT0.out)
      rw [← hE, ← hQ] at HC
      have He5 := hid hE
      have Hs := hid hQ
      clear hE hQ
      obtain ⟨a0, a1, a2, _⟩ := HVd.out.cells
      go_wp2_with fail
      refine HC.out.mono ?_
      rintro e w30 ⟨rfl, hst⟩
      clear HC a0 a1 a2
      replace HVx := hid (HVx.out.below hst)
      replace HRx := hid (HRx.out.below hst)
      replace HVy := hid (HVy.out.below hst)
      replace HRy := hid (HRy.out.below hst)
      replace HVz := hid (HVz.out.below hst)
      replace HRz := hid (HRz.out.below hst)
      replace HVd := hid (HVd.out.below hst)
      replace HRd := hid (HRd.out.below hst)
      replace HT0 := hid (HT0.out.below hst)
      replace HB := hid (HB.out.trans (hst.mono HB.out.size))
      clear hst
      go_upto_region 11 with fail
      have hsub : e4 = 0 → e5 = 0 ∧ s = a := fun h => by have h2 := order_sub He1.out.symm (h ▸ He4.out).symm; rw [← He5.out, ← Hs.out, ← Ha.out] at h2; exact h2
      go_cut [121] from 111 to 121 (fun v wx => v = .bool false ∧ Hid (Below w30.heap.size w30 wx))
      case first =>
        by_cases h4 : e4 = 0
        · obtain ⟨rfl, rfl⟩ := hsub h4
          have y0 : (e4 == 0) = true := by simp [h4]
          clear hsub h4
          go_wp2_with fail
          go_meet
          case rel => exact ⟨rfl, hid (Below.refl _ _)⟩
        · have y0 : (e4 == 0) = false := by simpa using h4
          clear hsub h4
          go_wp2_with fail
          go_meet
          case rel => exact ⟨rfl, hid (Below.refl _ _)⟩
      case rest =>
        obtain ⟨W40, hWk⟩ : ∃ W, W = wc := ⟨_, rfl⟩
        subst hWk
        obtain ⟨rfl, hst⟩ := hcut
        replace hst := hst.out
        clear hsub
        replace HVx := hid (HVx.out.below hst)
        replace HRx := hid (HRx.out.below hst)
        replace HVy := hid (HVy.out.below hst)
        replace HRy := hid (HRy.out.below hst)
        replace HVz := hid (HVz.out.below hst)
        replace HRz := hid (HRz.out.below hst)
        replace HVd := hid (HVd.out.below hst)
        replace HRd := hid (HRd.out.below hst)
        replace HT0 := hid (HT0.out.below hst)
        replace HB := hid (HB.out.trans (hst.mono HB.out.size))
        clear hst
        go_upto_region 13 with fail
        obtain ⟨e6, hE⟩ : ∃ c, c = addc x z := ⟨_, rfl⟩
        have HC := hid (nAdd_u _ _ _ _ W40 HRx.out HRz.out HT0.out)
        rw [← hE] at HC
        have He6 := hid hE
        clear hE
        obtain ⟨a0, a1, a2, _⟩ := HVx.out.cells
        obtain ⟨b0, b1, b2, _⟩ := HVz.out.cells
        go_wp2_with fail
        refine HC.out.mono ?_
        rintro e w6 ⟨hB, su, pau, kau, cau, pbu, kbu, cbu, rfl, hF⟩
        clear HC a0 a1 a2 b0 b1 b2
        go_upto_region 14 with fail
        have hal := (Below.refl w6.heap.size w6).alloc (Nat.le_refl _) (.cells #[.bool su, .slice pau kau cau, .slice pbu kbu cbu] 24)
        have hV := Var3.alloc w6 (x := .bool su) (y := .slice pau kau cau) (z := .slice pbu kbu cbu) 24 trivial trivial trivial
        have hst := held_any hB hal
        have hF2 := hid (hF.out.below hal)
        clear hB hal hF
        generalize w6.alloc (.cells #[.bool su, .slice pau kau cau, .slice pbu kbu cbu] 24) = W6 at *
        generalize w6.heap.size = Bu at *
        replace HVx := hid (HVx.out.below hst)
        replace HRx := hid (HRx.out.below hst)
        replace HVy := hid (HVy.out.below hst)
        replace HRy := hid (HRy.out.below hst)
        replace HVz := hid (HVz.out.below hst)
        replace HRz := hid (HRz.out.below hst)
        replace HVd := hid (HVd.out.below hst)
        replace HRd := hid (HRd.out.below hst)
        replace HT0 := hid (HT0.out.below hst)
        replace HB := hid (HB.out.trans (hst.mono HB.out.size))
        clear hst
        have HVu := hid hV
        have HRu := hF2
        clear hV hF2
        obtain ⟨e7, hE⟩ : ∃ c, c = addc y z := ⟨_, rfl⟩
        have HC := hid (nAdd_u _ _ _ _ W6 HRy.out HRz.out HT0.out)
        rw [← hE] at HC
        have He7 := hid hE
        clear hE
        obtain ⟨a0, a1, a2, _⟩ := HVy.out.cells
        obtain ⟨b0, b1, b2, _⟩ := HVz.out.cells
        go_wp2_with fail
        refine HC.out.mono ?_
        rintro e w7 ⟨hB, sv, pav, kav, cav, pbv, kbv, cbv, rfl, hF⟩
        clear HC a0 a1 a2 b0 b1 b2
        go_upto_region 15 with fail
        have hal := (Below.refl w7.heap.size w7).alloc (Nat.le_refl _) (.cells #[.bool sv, .slice pav kav cav, .slice pbv kbv cbv] 24)
        have hV := Var3.alloc w7 (x := .bool sv) (y := .slice pav kav cav) (z := .slice pbv kbv cbv) 24 trivial trivial trivial
        have hst := held_any hB hal
        have hF2 := hid (hF.out.below hal)
        clear hB hal hF
        generalize w7.alloc (.cells #[.bool sv, .slice pav kav cav, .slice pbv kbv cbv] 24) = W7 at *
        generalize w7.heap.size = Bv at *
        replace HVx := hid (HVx.out.below hst)
        replace HRx := hid (HRx.out.below hst)
        replace HVy := hid (HVy.out.below hst)
        replace HRy := hid (HRy.out.below hst)
        replace HVz := hid (HVz.out.below hst)
        replace HRz := hid (HRz.out.below hst)
        replace HVd := hid (HVd.out.below hst)
        replace HRd := hid (HRd.out.below hst)
        replace HVu := hid (HVu.out.below hst)
        replace HRu := hid (HRu.out.below hst)
        replace HT0 := hid (HT0.out.below hst)
        replace HB := hid (HB.out.trans (hst.mono HB.out.size))
        clear hst
        have HVv := hid hV
        have HRv := hF2
        clear hV hF2
        obtain ⟨wv, hQ⟩ : ∃ c, c = cmt (addt x z) (addt y z) := ⟨_, rfl⟩
        obtain ⟨e8, hE⟩ : ∃ c, c = cmc (addt x z) (addt y z) := ⟨_, rfl⟩
        have HC := hid (nCompare_any _ _ _ _ W7 HRu.out HRv.out HT0.out)
        rw [← hE, ← hQ] at HC
        have He8 := hid hE
        have Hwv := hid hQ
        clear hE hQ
        obtain ⟨a0, a1, a2, _⟩ := HVu.out.cells
        obtain ⟨b0, b1, b2, _⟩ := HVv.out.cells
        go_wp2_with fail
        refine HC.out.mono ?_
        rintro e w8 ⟨rfl, hst⟩
        clear HC a0 a1 a2 b0 b1 b2
        replace HVx := hid (HVx.out.below hst)
        replace HRx := hid (HRx.out.below hst)
        replace HVy := hid (HVy.out.below hst)
        replace HRy := hid (HRy.out.below hst)
        replace HVz := hid (HVz.out.below hst)
        replace HRz := hid (HRz.out.below hst)
        replace HVd := hid (HVd.out.below hst)
        replace HRd := hid (HRd.out.below hst)
        replace HVu := hid (HVu.out.below hst)
        replace HRu := hid (HRu.out.below hst)
        replace HVv := hid (HVv.out.below hst)
        replace HRv := hid (HRv.out.below hst)
        replace HT0 := hid (HT0.out.below hst)
        replace HB := hid (HB.out.trans (hst.mono HB.out.size))
        clear hst
        go_upto_region 16 with fail
        have hA := hid (fun (W : World) (hW : Below w8.heap.size w8 W) => awake_any W (HT0.out.below hW))
        have hadd : e6 = 0 → e7 = 0 → e8 = 0 ∧ wv = a := fun h h' => by have h2 := order_add He1.out.symm (h ▸ He6.out).symm (h' ▸ He7.out).symm; rw [← He8.out, ← Hwv.out, ← Ha.out] at h2; exact h2
        by_cases h6 : e6 = 0
        · by_cases h7 : e7 = 0
          · obtain ⟨rfl, rfl⟩ := hadd h6 h7
            have y0 : (e6 != 0) = false := by simp [h6]
            have y1 : (e7 != 0) = false := by simp [h7]
            clear hadd
            clear h6 h7
            go_wp2_with fail
            refine (hA.out _ (Below.refl _ _)).mono ?_
            rintro e wr ⟨rfl, hBr⟩
            have hZ := hid (HB.out.trans (hBr.mono HB.out.size))
            clear hA hBr
            go_wp2_with fail
            go_ret
            exact ⟨rfl, hZ.out⟩
          · have y0 : (e6 != 0) = false := by simp [h6]
            have y1 : (e7 != 0) = true := by simpa using h7
            clear hadd
            clear h6 h7
            go_wp2_with fail
            refine (hA.out _ (Below.refl _ _)).mono ?_
            rintro e wr ⟨rfl, hBr⟩
            have hZ := hid (HB.out.trans (hBr.mono HB.out.size))
            clear hA hBr
            go_wp2_with fail
            go_ret
            exact ⟨rfl, hZ.out⟩
        · have y0 : (e6 != 0) = true := by simpa using h6
          clear hadd
          clear h6
          go_wp2_with fail
          refine (hA.out _ (Below.refl _ _)).mono ?_
          rintro e wr ⟨rfl, hBr⟩
          have hZ := hid (HB.out.trans (hBr.mono HB.out.size))
          clear hA hBr
          go_wp2_with fail
          go_ret
          exact ⟨rfl, hZ.out⟩
end Go.Proofs.YtdinpeglclkjhaaDoor
