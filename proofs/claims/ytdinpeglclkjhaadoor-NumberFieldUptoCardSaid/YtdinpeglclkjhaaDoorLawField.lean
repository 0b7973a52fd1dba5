/- The law NumberField. -/
import Derived.Test.YtdinpeglclkjhaaDoorLawA
import Derived.Test.YtdinpeglclkjhaaDoorNumY
import Derived.Deep.CutRange
namespace Go.Proofs.YtdinpeglclkjhaaDoor
open Go.RowKit Dg

theorem field_add {x y z : Bool × Nat × Nat} (h1 : addc x y = 0) (h2 : addc (addt x y) z = 0) (h3 : addc y z = 0) (h4 : addc (addt y z) x = 0) :
    SameQ (addt (addt x y) z).1 (addt (addt x y) z).2.1 (addt (addt x y) z).2.2 (addt (addt y z) x).1 (addt (addt y z) x).2.1 (addt (addt y z) x).2.2 :=
  (addt_Q h2 (addt_Q h1 (IsQ.self x) (IsQ.self y)) (IsQ.self z)).same (addt_Q h4 (addt_Q h3 (IsQ.self y) (IsQ.self z)) (IsQ.self x)) (by grind)
theorem field_mul {x y z : Bool × Nat × Nat} (h1 : mulc x y = 0) (h2 : mulc (mult x y) z = 0) (h3 : mulc z y = 0) (h4 : mulc (mult z y) x = 0) :
    SameQ (mult (mult x y) z).1 (mult (mult x y) z).2.1 (mult (mult x y) z).2.2 (mult (mult z y) x).1 (mult (mult z y) x).2.1 (mult (mult z y) x).2.2 :=
  (mult_Q h2 (mult_Q h1 (IsQ.self x) (IsQ.self y)) (IsQ.self z)).same (mult_Q h4 (mult_Q h3 (IsQ.self z) (IsQ.self y)) (IsQ.self x)) (by grind)
theorem field_dist {x y z : Bool × Nat × Nat} (h1 : addc y z = 0) (h2 : mulc x y = 0) (h3 : mulc x (addt y z) = 0) (h4 : mulc x z = 0) (h5 : addc (mult x y) (mult x z) = 0) :
    SameQ (mult x (addt y z)).1 (mult x (addt y z)).2.1 (mult x (addt y z)).2.2 (addt (mult x y) (mult x z)).1 (addt (mult x y) (mult x z)).2.1 (addt (mult x y) (mult x z)).2.2 :=
  (mult_Q h3 (IsQ.self x) (addt_Q h1 (IsQ.self y) (IsQ.self z))).same (addt_Q h5 (mult_Q h2 (IsQ.self x) (IsQ.self y)) (mult_Q h4 (IsQ.self x) (IsQ.self z))) (by grind)
theorem field_sub {x y : Bool × Nat × Nat} (h1 : addc x y = 0) (h2 : subc (addt x y) y = 0) :
    SameQ (subt (addt x y) y).1 (subt (addt x y) y).2.1 (subt (addt x y) y).2.2 x.1 x.2.1 x.2.2 :=
  (subt_Q h2 (addt_Q h1 (IsQ.self x) (IsQ.self y)) (IsQ.self y)).same (IsQ.self x) (by grind)
theorem field_div {x y : Bool × Nat × Nat} (h1 : mulc x y = 0) (h2 : divc (mult x y) y = 0) :
    SameQ (divt (mult x y) y).1 (divt (mult x y) y).2.1 (divt (mult x y) y).2.2 x.1 x.2.1 x.2.2 :=
  (divt_Q h2 (mult_Q h1 (IsQ.self x) (IsQ.self y)) (IsQ.self y)).same (IsQ.self x) (by grind)
theorem few_add {a b : Bool × Nat × Nat} : Few (addt a b) := few_res fun h => (ncode_zero h).2.2.2
theorem few_sub {a b : Bool × Nat × Nat} : Few (subt a b) := few_res fun h => (ncode_zero h).2.2.2
theorem few_mul {a b : Bool × Nat × Nat} : Few (mult a b) := few_res fun h => (ncode_zero h).2.2.2
theorem few_div {a b : Bool × Nat × Nat} : Few (divt a b) := few_res fun h => (ncode_zero h).2.2.2

set_option maxHeartbeats 40000000 in
set_option maxRecDepth 100000 in
theorem NumberField_any (vx vy vz : Value) (x y z : Bool × Nat × Nat) (w : World) (hx : NRep w vx x) (hy : NRep w vy y) (hz : NRep w vz z) (ht : TabOk w) :
    Calls Tryd.prog 13 #[vx, vy, vz] w fun e w' => e = .returned (.bool true) ∧ Below w.heap.size w w' := by
  have Hx := hid hx
  obtain ⟨_, _, rfl, ⟨pax, kax, cax, rfl, _⟩, ⟨pbx, kbx, cbx, rfl, _⟩⟩ := hx
  have Hy := hid hy
  obtain ⟨_, _, rfl, ⟨pay, kay, cay, rfl, _⟩, ⟨pby, kby, cby, rfl, _⟩⟩ := hy
  have Hz := hid hz
  obtain ⟨_, _, rfl, ⟨paz, kaz, caz, rfl, _⟩, ⟨pbz, kbz, cbz, rfl, _⟩⟩ := hz
  have HT := hid ht
  clear ht
  go_enter Tryd.func13, Tryd.ntmps13
  go_upto_region 1 with fail
  have hB0 := below_alloc3 w (.cells #[.bool x.1, .slice pax kax cax, .slice pbx kbx cbx] 24) (.cells #[.bool y.1, .slice pay kay cay, .slice pby kby cby] 24) (.cells #[.bool z.1, .slice paz kaz caz, .slice pbz kbz cbz] 24)
  have Vx := ((Var3.alloc w (x := .bool x.1) (y := .slice pax kax cax) (z := .slice pbx kbx cbx) 24 trivial trivial trivial).below ((Below.refl _ _).alloc (Nat.le_refl _) (.cells #[.bool y.1, .slice pay kay cay, .slice pby kby cby] 24))).below ((Below.refl _ _).alloc (Nat.le_refl _) (.cells #[.bool z.1, .slice paz kaz caz, .slice pbz kbz cbz] 24))
  have Vy := (Var3.alloc2 w (.cells #[.bool x.1, .slice pax kax cax, .slice pbx kbx cbx] 24) (x := .bool y.1) (y := .slice pay kay cay) (z := .slice pby kby cby) 24 trivial trivial trivial).below ((Below.refl _ _).alloc (Nat.le_refl _) (.cells #[.bool z.1, .slice paz kaz caz, .slice pbz kbz cbz] 24))
  have Vz := (Var3.alloc3 w (.cells #[.bool x.1, .slice pax kax cax, .slice pbx kbx cbx] 24) (.cells #[.bool y.1, .slice pay kay cay, .slice pby kby cby] 24) (x := .bool z.1) (y := .slice paz kaz caz) (z := .slice pbz kbz cbz) 24 trivial trivial trivial)
  generalize ((w.alloc (.cells #[.bool x.1, .slice pax kax cax, .slice pbx kbx cbx] 24)).alloc (.cells #[.bool y.1, .slice pay kay cay, .slice pby kby cby] 24)).alloc (.cells #[.bool z.1, .slice paz kaz caz, .slice pbz kbz cbz] 24) = W0 at *
  have HVx := hid Vx
  have HRx := hid (Hx.out.below hB0)
  clear Vx Hx
  have HVy := hid Vy
  have HRy := hid (Hy.out.below hB0)
  clear Vy Hy
  have HVz := hid Vz
  have HRz := hid (Hz.out.below hB0)
  clear Vz Hz
  have HT0 := hid (HT.out.below hB0)
  have HB := hid hB0
  clear HT hB0
  obtain ⟨e1, hE⟩ : ∃ c, c = addc x y := ⟨_, rfl⟩
  have HC := hid (nAdd_u _ _ _ _ W0 HRx.out HRy.out HT0.out)
  rw [← hE] at HC
  have He1 := hid hE
  clear hE
  obtain ⟨a0, a1, a2, _⟩ := HVx.out.cells
  obtain ⟨b0, b1, b2, _⟩ := HVy.out.cells
  go_wp2_with fail
  refine HC.out.mono ?_
  rintro e w1 ⟨hB, sa, paa, kaa, caa, pba, kba, cba, rfl, hF⟩
  clear HC a0 a1 a2 b0 b1 b2
  go_upto_region 2 with fail
  have hal := (Below.refl w1.heap.size w1).alloc (Nat.le_refl _) (.cells #[.bool sa, .slice paa kaa caa, .slice pba kba cba] 24)
  have hV := Var3.alloc w1 (x := .bool sa) (y := .slice paa kaa caa) (z := .slice pba kba cba) 24 trivial trivial trivial
  have hst := held_any hB hal
  have hF2 := hid (hF.out.below hal)
  clear hB hal hF
  generalize w1.alloc (.cells #[.bool sa, .slice paa kaa caa, .slice pba kba cba] 24) = W1 at *
  generalize w1.heap.size = Ba at *
  replace HVx := hid (HVx.out.below hst)
  replace HRx := hid (HRx.out.below hst)
  replace HVy := hid (HVy.out.below hst)
  replace HRy := hid (HRy.out.below hst)
  replace HVz := hid (HVz.out.below hst)
  replace HRz := hid (HRz.out.below hst)
  replace HT0 := hid (HT0.out.below hst)
  replace HB := hid (HB.out.trans (hst.mono HB.out.size))
  clear hst
  have HVa := hid hV
  have HRa := hF2
  clear hV hF2
  obtain ⟨e2, hE⟩ : ∃ c, c = addc (addt x y) z := ⟨_, rfl⟩
  have HC := hid (nAdd_u _ _ _ _ W1 HRa.out HRz.out HT0.out)
  rw [← hE] at HC
  have He2 := hid hE
  clear hE
  obtain ⟨a0, a1, a2, _⟩ := HVa.out.cells
  obtain ⟨b0, b1, b2, _⟩ := HVz.out.cells
  go_wp2_with fail
  refine HC.out.mono ?_
  rintro e w2 ⟨hB, sb, pab, kab, cab, pbb, kbb, cbb, rfl, hF⟩
  clear HC a0 a1 a2 b0 b1 b2
  go_upto_region 3 with fail
  have hal := (Below.refl w2.heap.size w2).alloc (Nat.le_refl _) (.cells #[.bool sb, .slice pab kab cab, .slice pbb kbb cbb] 24)
  have hV := Var3.alloc w2 (x := .bool sb) (y := .slice pab kab cab) (z := .slice pbb kbb cbb) 24 trivial trivial trivial
  have hst := held_any hB hal
  have hF2 := hid (hF.out.below hal)
  clear hB hal hF
  generalize w2.alloc (.cells #[.bool sb, .slice pab kab cab, .slice pbb kbb cbb] 24) = W2 at *
  generalize w2.heap.size = Bb at *
  replace HVx := hid (HVx.out.below hst)
  replace HRx := hid (HRx.out.below hst)
  replace HVy := hid (HVy.out.below hst)
  replace HRy := hid (HRy.out.below hst)
  replace HVz := hid (HVz.out.below hst)
  replace HRz := hid (HRz.out.below hst)
  replace HVa := hid (HVa.out.below hst)
  replace HRa := hid (HRa.out.below hst)
  replace HT0 := hid (HT0.out.below hst)
  replace HB := hid (HB.out.trans (hst.mono HB.out.size))
  clear hst
  have HVb := hid hV
  have HRb := hF2
  clear hV hF2
  obtain ⟨e3, hE⟩ : ∃ c, c = addc y z := ⟨_, rfl⟩
  have HC := hid (nAdd_u _ _ _ _ W2 HRy.out HRz.out HT0.out)
  rw [← hE] at HC
  have He3 := hid hE
  clear hE
  obtain ⟨a0, a1, a2, _⟩ := HVy.out.cells
  obtain ⟨b0, b1, b2, _⟩ := HVz.out.cells
  go_wp2_with fail
  refine HC.out.mono ?_
  rintro e w3 ⟨hB, sc, pac, kac, cac, pbc, kbc, cbc, rfl, hF⟩
  clear HC a0 a1 a2 b0 b1 b2
  go_upto_region 4 with fail
  have hal := (Below.refl w3.heap.size w3).alloc (Nat.le_refl _) (.cells #[.bool sc, .slice pac kac cac, .slice pbc kbc cbc] 24)
  have hV := Var3.alloc w3 (x := .bool sc) (y := .slice pac kac cac) (z := .slice pbc kbc cbc) 24 trivial trivial trivial
  have hst := held_any hB hal
  have hF2 := hid (hF.out.below hal)
  clear hB hal hF
  generalize w3.alloc (.cells #[.bool sc, .slice pac kac cac, .slice pbc kbc cbc] 24) = W3 at *
  generalize w3.heap.size = Bc at *
  replace HVx := hid (HVx.out.below hst)
  replace HRx := hid (HRx.out.below hst)
  replace HVy := hid (HVy.out.below hst)
  replace HRy := hid (HRy.out.below hst)
  replace HVz := hid (HVz.out.below hst)
  replace HRz := hid (HRz.out.below hst)
  replace HVa := hid (HVa.out.below hst)
  replace HRa := hid (HRa.out.below hst)
  replace HVb := hid (HVb.out.below hst)
  replace HRb := hid (HRb.out.below hst)
  replace HT0 := hid (HT0.out.below hst)
  replace HB := hid (HB.out.trans (hst.mono HB.out.size))
  clear hst
  have HVc := hid hV
  have HRc := hF2
  clear hV hF2
  obtain ⟨e4, hE⟩ : ∃ c, c = addc (addt y z) x := ⟨_, rfl⟩
  have HC := hid (nAdd_u _ _ _ _ W3 HRc.out HRx.out HT0.out)
  rw [← hE] at HC
  have He4 := hid hE
  clear hE
  obtain ⟨a0, a1, a2, _⟩ := HVc.out.cells
  obtain ⟨b0, b1, b2, _⟩ := HVx.out.cells
  go_wp2_with fail
  refine HC.out.mono ?_
  rintro e w4 ⟨hB, sd, pad, kad, cad, pbd, kbd, cbd, rfl, hF⟩
  clear HC a0 a1 a2 b0 b1 b2
  go_upto_region 5 with fail
  have hal := (Below.refl w4.heap.size w4).alloc (Nat.le_refl _) (.cells #[.bool sd, .slice pad kad cad, .slice pbd kbd cbd] 24)
  have hV := Var3.alloc w4 (x := .bool sd) (y := .slice pad kad cad) (z := .slice pbd kbd cbd) 24 trivial trivial trivial
  have hst := held_any hB hal
  have hF2 := hid (hF.out.below hal)
  clear hB hal hF
  generalize w4.alloc (.cells #[.bool sd, .slice pad kad cad, .slice pbd kbd cbd] 24) = W4 at *
  generalize w4.heap.size = Bd at *
  replace HVx := hid (HVx.out.below hst)
  replace HRx := hid (HRx.out.below hst)
  replace HVy := hid (HVy.out.below hst)
  replace HRy := hid (HRy.out.below hst)
  replace HVz := hid (HVz.out.below hst)
  replace HRz := hid (HRz.out.below hst)
  replace HVa := hid (HVa.out.below hst)
  replace HRa := hid (HRa.out.below hst)
  replace HVb := hid (HVb.out.below hst)
  replace HRb := hid (HRb.out.below hst)
  replace HVc := hid (HVc.out.below hst)
  replace HRc := hid (HRc.out.below hst)
  replace HT0 := hid (HT0.out.below hst)
  replace HB := hid (HB.out.trans (hst.mono HB.out.size))
  clear hst
  have HVd := hid hV
  have HRd := hF2
  clear hV hF2
  have hS : Hid (e1 = 0 ∧ e2 = 0 ∧ e3 = 0 ∧ e4 = 0 → Calls Tryd.prog 24 #[.agg #[.bool sb, .slice pab kab cab, .slice pbb kbb cbb], .agg #[.bool sd, .slice pad kad cad, .slice pbd kbd cbd]] W4 fun e w' => e = .returned (.bool true) ∧ Below W4.heap.size W4 w') :=
    hid fun ⟨q1, q2, q3, q4⟩ => Equal_u _ _ _ _ W4 HRb.out HRd.out (few_add) (few_add) (field_add (q1 ▸ He1.out).symm (q2 ▸ He2.out).symm (q3 ▸ He3.out).symm (q4 ▸ He4.out).symm)
  go_cut [76] from 57 to 76 (fun v wx => v = .bool false ∧ Hid (Below W4.heap.size W4 wx))
  case first =>
    obtain ⟨a0, a1, a2, _⟩ := HVb.out.cells
    obtain ⟨b0, b1, b2, _⟩ := HVd.out.cells
    have hcase : (e1 ≠ 0) ∨ (e1 = 0 ∧ e2 ≠ 0) ∨ (e1 = 0 ∧ e2 = 0 ∧ e3 ≠ 0) ∨ (e1 = 0 ∧ e2 = 0 ∧ e3 = 0 ∧ e4 ≠ 0) ∨ (e1 = 0 ∧ e2 = 0 ∧ e3 = 0 ∧ e4 = 0) := by omega
    rcases hcase with nz | hcase
    · have y0 : (e1 == 0) = false := by simpa using nz
      clear hS nz
      go_wp2_with fail
      go_meet
      case rel => exact ⟨rfl, hid (Below.refl _ _)⟩
    rcases hcase with ⟨z0, nz⟩ | hcase
    · have y0 : (e1 == 0) = true := by simp [z0]
      have y1 : (e2 == 0) = false := by simpa using nz
      clear hS z0 nz
      go_wp2_with fail
      go_meet
      case rel => exact ⟨rfl, hid (Below.refl _ _)⟩
    rcases hcase with ⟨z0, z1, nz⟩ | hcase
    · have y0 : (e1 == 0) = true := by simp [z0]
      have y1 : (e2 == 0) = true := by simp [z1]
      have y2 : (e3 == 0) = false := by simpa using nz
      clear hS z0 z1 nz
      go_wp2_with fail
      go_meet
      case rel => exact ⟨rfl, hid (Below.refl _ _)⟩
    rcases hcase with ⟨z0, z1, z2, nz⟩ | hcase
    · have y0 : (e1 == 0) = true := by simp [z0]
      have y1 : (e2 == 0) = true := by simp [z1]
      have y2 : (e3 == 0) = true := by simp [z2]
      have y3 : (e4 == 0) = false := by simpa using nz
      clear hS z0 z1 z2 nz
      go_wp2_with fail
      go_meet
      case rel => exact ⟨rfl, hid (Below.refl _ _)⟩
    obtain ⟨z0, z1, z2, z3⟩ := hcase
    have y0 : (e1 == 0) = true := by simp [z0]
    have y1 : (e2 == 0) = true := by simp [z1]
    have y2 : (e3 == 0) = true := by simp [z2]
    have y3 : (e4 == 0) = true := by simp [z3]
    have hS1 := hid (hS.out ⟨z0, z1, z2, z3⟩)
    clear hS z0 z1 z2 z3
    go_wp2_with fail
    refine hS1.out.mono ?_
    rintro e wq ⟨rfl, hBq⟩
    clear hS1 a0 a1 a2 b0 b1 b2
    go_wp2_with fail
    go_meet
    case rel => exact ⟨rfl, hid (hBq)⟩
  case rest =>
    obtain ⟨W5, hWk⟩ : ∃ W, W = wc := ⟨_, rfl⟩
    subst hWk
    obtain ⟨rfl, hst⟩ := hcut
    replace hst := hst.out
    clear hS
    replace HVx := hid (HVx.out.below hst)
    replace HRx := hid (HRx.out.below hst)
    replace HVy := hid (HVy.out.below hst)
    replace HRy := hid (HRy.out.below hst)
    replace HVz := hid (HVz.out.below hst)
    replace HRz := hid (HRz.out.below hst)
    replace HVa := hid (HVa.out.below hst)
    replace HRa := hid (HRa.out.below hst)
    replace HVb := hid (HVb.out.below hst)
    replace HRb := hid (HRb.out.below hst)
    replace HVc := hid (HVc.out.below hst)
    replace HRc := hid (HRc.out.below hst)
    replace HVd := hid (HVd.out.below hst)
    replace HRd := hid (HRd.out.below hst)
    replace HT0 := hid (HT0.out.below hst)
    replace HB := hid (HB.out.trans (hst.mono HB.out.size))
    clear hst
    obtain ⟨e5, hE⟩ : ∃ c, c = mulc x y := ⟨_, rfl⟩
    have HC := hid (nMul_u _ _ _ _ W5 HRx.out HRy.out HT0.out)
    rw [← hE] at HC
    have He5 := hid hE
    clear hE
    obtain ⟨a0, a1, a2, _⟩ := HVx.out.cells
    obtain ⟨b0, b1, b2, _⟩ := HVy.out.cells
    go_wp2_with fail
    refine HC.out.mono ?_
    rintro e w6 ⟨hB, sf, paf, kaf, caf, pbf, kbf, cbf, rfl, hF⟩
    clear HC a0 a1 a2 b0 b1 b2
    go_upto_region 8 with fail
    have hal := (Below.refl w6.heap.size w6).alloc (Nat.le_refl _) (.cells #[.bool sf, .slice paf kaf caf, .slice pbf kbf cbf] 24)
    have hV := Var3.alloc w6 (x := .bool sf) (y := .slice paf kaf caf) (z := .slice pbf kbf cbf) 24 trivial trivial trivial
    have hst := held_any hB hal
    have hF2 := hid (hF.out.below hal)
    clear hB hal hF
    generalize w6.alloc (.cells #[.bool sf, .slice paf kaf caf, .slice pbf kbf cbf] 24) = W6 at *
    generalize w6.heap.size = Bf at *
    replace HVx := hid (HVx.out.below hst)
    replace HRx := hid (HRx.out.below hst)
    replace HVy := hid (HVy.out.below hst)
    replace HRy := hid (HRy.out.below hst)
    replace HVz := hid (HVz.out.below hst)
    replace HRz := hid (HRz.out.below hst)
    replace HVa := hid (HVa.out.below hst)
    replace HRa := hid (HRa.out.below hst)
    replace HVb := hid (HVb.out.below hst)
    replace HRb := hid (HRb.out.below hst)
    replace HVc := hid (HVc.out.below hst)
    replace HRc := hid (HRc.out.below hst)
    replace HVd := hid (HVd.out.below hst)
    replace HRd := hid (HRd.out.below hst)
    replace HT0 := hid (HT0.out.below hst)
    replace HB := hid (HB.out.trans (hst.mono HB.out.size))
    clear hst
    have HVf := hid hV
    have HRf := hF2
    clear hV hF2
    obtain ⟨e6, hE⟩ : ∃ c, c = mulc (mult x y) z := ⟨_, rfl⟩
    have HC := hid (nMul_u _ _ _ _ W6 HRf.out HRz.out HT0.out)
    rw [← hE] at HC
    have He6 := hid hE
    clear hE
    obtain ⟨a0, a1, a2, _⟩ := HVf.out.cells
    obtain ⟨b0, b1, b2, _⟩ := HVz.out.cells
    go_wp2_with fail
    refine HC.out.mono ?_
    rintro e w7 ⟨hB, sg, pag, kag, cag, pbg, kbg, cbg, rfl, hF⟩
    clear HC a0 a1 a2 b0 b1 b2
    go_upto_region 9 with fail
    have hal := (Below.refl w7.heap.size w7).alloc (Nat.le_refl _) (.cells #[.bool sg, .slice pag kag cag, .slice pbg kbg cbg] 24)
    have hV := Var3.alloc w7 (x := .bool sg) (y := .slice pag kag cag) (z := .slice pbg kbg cbg) 24 trivial trivial trivial
    have hst := held_any hB hal
    have hF2 := hid (hF.out.below hal)
    clear hB hal hF
    generalize w7.alloc (.cells #[.bool sg, .slice pag kag cag, .slice pbg kbg cbg] 24) = W7 at *
    generalize w7.heap.size = Bg at *
    replace HVx := hid (HVx.out.below hst)
    replace HRx := hid (HRx.out.below hst)
    replace HVy := hid (HVy.out.below hst)
    replace HRy := hid (HRy.out.below hst)
    replace HVz := hid (HVz.out.below hst)
    replace HRz := hid (HRz.out.below hst)
    replace HVa := hid (HVa.out.below hst)
    replace HRa := hid (HRa.out.below hst)
    replace HVb := hid (HVb.out.below hst)
    replace HRb := hid (HRb.out.below hst)
    replace HVc := hid (HVc.out.below hst)
    replace HRc := hid (HRc.out.below hst)
    replace HVd := hid (HVd.out.below hst)
    replace HRd := hid (HRd.out.below hst)
    replace HVf := hid (HVf.out.below hst)
    replace HRf := hid (HRf.out.below hst)
    replace HT0 := hid (HT0.out.below hst)
    replace HB := hid (HB.out.trans (hst.mono HB.out.size))
    clear hst
    have HVg := hid hV
    have HRg := hF2
    clear hV hF2
    obtain ⟨e7, hE⟩ : ∃ c, c = mulc z y := ⟨_, rfl⟩
    have HC := hid (nMul_u _ _ _ _ W7 HRz.out HRy.out HT0.out)
    rw [← hE] at HC
    have He7 := hid hE
    clear hE
    obtain ⟨a0, a1, a2, _⟩ := HVz.out.cells
    obtain ⟨b0, b1, b2, _⟩ := HVy.out.cells
    go_wp2_with fail
    refine HC.out.mono ?_
    rintro e w8 ⟨hB, sh, pah, kah, cah, pbh, kbh, cbh, rfl, hF⟩
    clear HC a0 a1 a2 b0 b1 b2
    go_upto_region 10 with fail
    have hal := (Below.refl w8.heap.size w8).alloc (Nat.le_refl _) (.cells #[.bool sh, .slice pah kah cah, .slice pbh kbh cbh] 24)
    have hV := Var3.alloc w8 (x := .bool sh) (y := .slice pah kah cah) (z := .slice pbh kbh cbh) 24 trivial trivial trivial
    have hst := held_any hB hal
    have hF2 := hid (hF.out.below hal)
    clear hB hal hF
    generalize w8.alloc (.cells #[.bool sh, .slice pah kah cah, .slice pbh kbh cbh] 24) = W8 at *
    generalize w8.heap.size = Bh at *
    replace HVx := hid (HVx.out.below hst)
    replace HRx := hid (HRx.out.below hst)
    replace HVy := hid (HVy.out.below hst)
    replace HRy := hid (HRy.out.below hst)
    replace HVz := hid (HVz.out.below hst)
    replace HRz := hid (HRz.out.below hst)
    replace HVa := hid (HVa.out.below hst)
    replace HRa := hid (HRa.out.below hst)
    replace HVb := hid (HVb.out.below hst)
    replace HRb := hid (HRb.out.below hst)
    replace HVc := hid (HVc.out.below hst)
    replace HRc := hid (HRc.out.below hst)
    replace HVd := hid (HVd.out.below hst)
    replace HRd := hid (HRd.out.below hst)
    replace HVf := hid (HVf.out.below hst)
    replace HRf := hid (HRf.out.below hst)
    replace HVg := hid (HVg.out.below hst)
    replace HRg := hid (HRg.out.below hst)
    replace HT0 := hid (HT0.out.below hst)
    replace HB := hid (HB.out.trans (hst.mono HB.out.size))
    clear hst
    have HVh := hid hV
    have HRh := hF2
    clear hV hF2
    obtain ⟨e8, hE⟩ : ∃ c, c = mulc (mult z y) x := ⟨_, rfl⟩
    have HC := hid (nMul_u _ _ _ _ W8 HRh.out HRx.out HT0.out)
    rw [← hE] at HC
    have He8 := hid hE
    clear hE
    obtain ⟨a0, a1, a2, _⟩ := HVh.out.cells
    obtain ⟨b0, b1, b2, _⟩ := HVx.out.cells
    go_wp2_with fail
    refine HC.out.mono ?_
    rintro e w9 ⟨hB, si, pai, kai, cai, pbi, kbi, cbi, rfl, hF⟩
    clear HC a0 a1 a2 b0 b1 b2
    go_upto_region 11 with fail
    have hal := (Below.refl w9.heap.size w9).alloc (Nat.le_refl _) (.cells #[.bool si, .slice pai kai cai, .slice pbi kbi cbi] 24)
    have hV := Var3.alloc w9 (x := .bool si) (y := .slice pai kai cai) (z := .slice pbi kbi cbi) 24 trivial trivial trivial
    have hst := held_any hB hal
    have hF2 := hid (hF.out.below hal)
    clear hB hal hF
    generalize w9.alloc (.cells #[.bool si, .slice pai kai cai, .slice pbi kbi cbi] 24) = W9 at *
    generalize w9.heap.size = Bi at *
    replace HVx := hid (HVx.out.below hst)
    replace HRx := hid (HRx.out.below hst)
    replace HVy := hid (HVy.out.below hst)
    replace HRy := hid (HRy.out.below hst)
    replace HVz := hid (HVz.out.below hst)
    replace HRz := hid (HRz.out.below hst)
    replace HVa := hid (HVa.out.below hst)
    replace HRa := hid (HRa.out.below hst)
    replace HVb := hid (HVb.out.below hst)
    replace HRb := hid (HRb.out.below hst)
    replace HVc := hid (HVc.out.below hst)
    replace HRc := hid (HRc.out.below hst)
    replace HVd := hid (HVd.out.below hst)
    replace HRd := hid (HRd.out.below hst)
    replace HVf := hid (HVf.out.below hst)
    replace HRf := hid (HRf.out.below hst)
    replace HVg := hid (HVg.out.below hst)
    replace HRg := hid (HRg.out.below hst)
    replace HVh := hid (HVh.out.below hst)
    replace HRh := hid (HRh.out.below hst)
    replace HT0 := hid (HT0.out.below hst)
    replace HB := hid (HB.out.trans (hst.mono HB.out.size))
    clear hst
    have HVi := hid hV
    have HRi := hF2
    clear hV hF2
    have hS : Hid (e5 = 0 ∧ e6 = 0 ∧ e7 = 0 ∧ e8 = 0 → Calls Tryd.prog 24 #[.agg #[.bool sg, .slice pag kag cag, .slice pbg kbg cbg], .agg #[.bool si, .slice pai kai cai, .slice pbi kbi cbi]] W9 fun e w' => e = .returned (.bool true) ∧ Below W9.heap.size W9 w') :=
      hid fun ⟨q1, q2, q3, q4⟩ => Equal_u _ _ _ _ W9 HRg.out HRi.out (few_mul) (few_mul) (field_mul (q1 ▸ He5.out).symm (q2 ▸ He6.out).symm (q3 ▸ He7.out).symm (q4 ▸ He8.out).symm)
    go_cut [120] from 101 to 120 (fun v wx => v = .bool false ∧ Hid (Below W9.heap.size W9 wx))
    case first =>
      obtain ⟨a0, a1, a2, _⟩ := HVg.out.cells
      obtain ⟨b0, b1, b2, _⟩ := HVi.out.cells
      have hcase : (e5 ≠ 0) ∨ (e5 = 0 ∧ e6 ≠ 0) ∨ (e5 = 0 ∧ e6 = 0 ∧ e7 ≠ 0) ∨ (e5 = 0 ∧ e6 = 0 ∧ e7 = 0 ∧ e8 ≠ 0) ∨ (e5 = 0 ∧ e6 = 0 ∧ e7 = 0 ∧ e8 = 0) := by omega
      rcases hcase with nz | hcase
      · have y0 : (e5 == 0) = false := by simpa using nz
        clear hS nz
        go_wp2_with fail
        go_meet
        case rel => exact ⟨rfl, hid (Below.refl _ _)⟩
      rcases hcase with ⟨z0, nz⟩ | hcase
      · have y0 : (e5 == 0) = true := by simp [z0]
        have y1 : (e6 == 0) = false := by simpa using nz
        clear hS z0 nz
        go_wp2_with fail
        go_meet
        case rel => exact ⟨rfl, hid (Below.refl _ _)⟩
      rcases hcase with ⟨z0, z1, nz⟩ | hcase
      · have y0 : (e5 == 0) = true := by simp [z0]
        have y1 : (e6 == 0) = true := by simp [z1]
        have y2 : (e7 == 0) = false := by simpa using nz
        clear hS z0 z1 nz
        go_wp2_with fail
        go_meet
        case rel => exact ⟨rfl, hid (Below.refl _ _)⟩
      rcases hcase with ⟨z0, z1, z2, nz⟩ | hcase
      · have y0 : (e5 == 0) = true := by simp [z0]
        have y1 : (e6 == 0) = true := by simp [z1]
        have y2 : (e7 == 0) = true := by simp [z2]
        have y3 : (e8 == 0) = false := by simpa using nz
        clear hS z0 z1 z2 nz
        go_wp2_with fail
        go_meet
        case rel => exact ⟨rfl, hid (Below.refl _ _)⟩
      obtain ⟨z0, z1, z2, z3⟩ := hcase
      have y0 : (e5 == 0) = true := by simp [z0]
      have y1 : (e6 == 0) = true := by simp [z1]
      have y2 : (e7 == 0) = true := by simp [z2]
      have y3 : (e8 == 0) = true := by simp [z3]
      have hS1 := hid (hS.out ⟨z0, z1, z2, z3⟩)
      clear hS z0 z1 z2 z3
      go_wp2_with fail
      refine hS1.out.mono ?_
      rintro e wq ⟨rfl, hBq⟩
      clear hS1 a0 a1 a2 b0 b1 b2
      go_wp2_with fail
      go_meet
      case rel => exact ⟨rfl, hid (hBq)⟩
    case rest =>
      obtain ⟨W10, hWk⟩ : ∃ W, W = wc := ⟨_, rfl⟩
      subst hWk
      obtain ⟨rfl, hst⟩ := hcut
      replace hst := hst.out
      clear hS
      replace HVx := hid (HVx.out.below hst)
      replace HRx := hid (HRx.out.below hst)
      replace HVy := hid (HVy.out.below hst)
      replace HRy := hid (HRy.out.below hst)
      replace HVz := hid (HVz.out.below hst)
      replace HRz := hid (HRz.out.below hst)
      replace HVa := hid (HVa.out.below hst)
      replace HRa := hid (HRa.out.below hst)
      replace HVb := hid (HVb.out.below hst)
      replace HRb := hid (HRb.out.below hst)
      replace HVc := hid (HVc.out.below hst)
      replace HRc := hid (HRc.out.below hst)
      replace HVd := hid (HVd.out.below hst)
      replace HRd := hid (HRd.out.below hst)
      replace HVf := hid (HVf.out.below hst)
      replace HRf := hid (HRf.out.below hst)
      replace HVg := hid (HVg.out.below hst)
      replace HRg := hid (HRg.out.below hst)
      replace HVh := hid (HVh.out.below hst)
      replace HRh := hid (HRh.out.below hst)
      replace HVi := hid (HVi.out.below hst)
      replace HRi := hid (HRi.out.below hst)
      replace HT0 := hid (HT0.out.below hst)
      replace HB := hid (HB.out.trans (hst.mono HB.out.size))
      clear hst
      obtain ⟨e9, hE⟩ : ∃ c, c = mulc x (addt y z) := ⟨_, rfl⟩
      have HC := hid (nMul_u _ _ _ _ W10 HRx.out HRc.out HT0.out)
      rw [← hE] at HC
      have He9 := hid hE
      clear hE
      obtain ⟨a0, a1, a2, _⟩ := HVx.out.cells
      obtain ⟨b0, b1, b2, _⟩ := HVc.out.cells
      go_wp2_with fail
      refine HC.out.mono ?_
      rintro e w11 ⟨hB, sj, paj, kaj, caj, pbj, kbj, cbj, rfl, hF⟩
      clear HC a0 a1 a2 b0 b1 b2
      go_upto_region 14 with fail
      have hal := (Below.refl w11.heap.size w11).alloc (Nat.le_refl _) (.cells #[.bool sj, .slice paj kaj caj, .slice pbj kbj cbj] 24)
      have hV := Var3.alloc w11 (x := .bool sj) (y := .slice paj kaj caj) (z := .slice pbj kbj cbj) 24 trivial trivial trivial
      have hst := held_any hB hal
      have hF2 := hid (hF.out.below hal)
      clear hB hal hF
      generalize w11.alloc (.cells #[.bool sj, .slice paj kaj caj, .slice pbj kbj cbj] 24) = W11 at *
      generalize w11.heap.size = Bj at *
      replace HVx := hid (HVx.out.below hst)
      replace HRx := hid (HRx.out.below hst)
      replace HVy := hid (HVy.out.below hst)
      replace HRy := hid (HRy.out.below hst)
      replace HVz := hid (HVz.out.below hst)
      replace HRz := hid (HRz.out.below hst)
      replace HVa := hid (HVa.out.below hst)
      replace HRa := hid (HRa.out.below hst)
      replace HVb := hid (HVb.out.below hst)
      replace HRb := hid (HRb.out.below hst)
      replace HVc := hid (HVc.out.below hst)
      replace HRc := hid (HRc.out.below hst)
      replace HVd := hid (HVd.out.below hst)
      replace HRd := hid (HRd.out.below hst)
      replace HVf := hid (HVf.out.below hst)
      replace HRf := hid (HRf.out.below hst)
      replace HVg := hid (HVg.out.below hst)
      replace HRg := hid (HRg.out.below hst)
      replace HVh := hid (HVh.out.below hst)
      replace HRh := hid (HRh.out.below hst)
      replace HVi := hid (HVi.out.below hst)
      replace HRi := hid (HRi.out.below hst)
      replace HT0 := hid (HT0.out.below hst)
      replace HB := hid (HB.out.trans (hst.mono HB.out.size))
      clear hst
      have HVj := hid hV
      have HRj := hF2
      clear hV hF2
      obtain ⟨e10, hE⟩ : ∃ c, c = mulc x z := ⟨_, rfl⟩
      have HC := hid (nMul_u _ _ _ _ W11 HRx.out HRz.out HT0.out)
      rw [← hE] at HC
      have He10 := hid hE
      clear hE
      obtain ⟨a0, a1, a2, _⟩ := HVx.out.cells
      obtain ⟨b0, b1, b2, _⟩ := HVz.out.cells
      go_wp2_with fail
      refine HC.out.mono ?_
      rintro e w12 ⟨hB, sk, pak, kak, cak, pbk, kbk, cbk, rfl, hF⟩
      clear HC a0 a1 a2 b0 b1 b2
      go_upto_region 15 with fail
      have hal := (Below.refl w12.heap.size w12).alloc (Nat.le_refl _) (.cells #[.bool sk, .slice pak kak cak, .slice pbk kbk cbk] 24)
      have hV := Var3.alloc w12 (x := .bool sk) (y := .slice pak kak cak) (z := .slice pbk kbk cbk) 24 trivial trivial trivial
      have hst := held_any hB hal
      have hF2 := hid (hF.out.below hal)
      clear hB hal hF
      generalize w12.alloc (.cells #[.bool sk, .slice pak kak cak, .slice pbk kbk cbk] 24) = W12 at *
      generalize w12.heap.size = Bk at *
      replace HVx := hid (HVx.out.below hst)
      replace HRx := hid (HRx.out.below hst)
      replace HVy := hid (HVy.out.below hst)
      replace HRy := hid (HRy.out.below hst)
      replace HVz := hid (HVz.out.below hst)
      replace HRz := hid (HRz.out.below hst)
      replace HVa := hid (HVa.out.below hst)
      replace HRa := hid (HRa.out.below hst)
      replace HVb := hid (HVb.out.below hst)
      replace HRb := hid (HRb.out.below hst)
      replace HVc := hid (HVc.out.below hst)
      replace HRc := hid (HRc.out.below hst)
      replace HVd := hid (HVd.out.below hst)
      replace HRd := hid (HRd.out.below hst)
      replace HVf := hid (HVf.out.below hst)
      replace HRf := hid (HRf.out.below hst)
      replace HVg := hid (HVg.out.below hst)
      replace HRg := hid (HRg.out.below hst)
      replace HVh := hid (HVh.out.below hst)
      replace HRh := hid (HRh.out.below hst)
      replace HVi := hid (HVi.out.below hst)
      replace HRi := hid (HRi.out.below hst)
      replace HVj := hid (HVj.out.below hst)
      replace HRj := hid (HRj.out.below hst)
      replace HT0 := hid (HT0.out.below hst)
      replace HB := hid (HB.out.trans (hst.mono HB.out.size))
      clear hst
      have HVk := hid hV
      have HRk := hF2
      clear hV hF2
      obtain ⟨e11, hE⟩ : ∃ c, c = addc (mult x y) (mult x z) := ⟨_, rfl⟩
      have HC := hid (nAdd_u _ _ _ _ W12 HRf.out HRk.out HT0.out)
      rw [← hE] at HC
      have He11 := hid hE
      clear hE
      obtain ⟨a0, a1, a2, _⟩ := HVf.out.cells
      obtain ⟨b0, b1, b2, _⟩ := HVk.out.cells
      go_wp2_with fail
      refine HC.out.mono ?_
      rintro e w13 ⟨hB, sl, pal, kal, cal, pbl, kbl, cbl, rfl, hF⟩
      clear HC a0 a1 a2 b0 b1 b2
      go_upto_region 16 with fail
      have hal := (Below.refl w13.heap.size w13).alloc (Nat.le_refl _) (.cells #[.bool sl, .slice pal kal cal, .slice pbl kbl cbl] 24)
      have hV := Var3.alloc w13 (x := .bool sl) (y := .slice pal kal cal) (z := .slice pbl kbl cbl) 24 trivial trivial trivial
      have hst := held_any hB hal
      have hF2 := hid (hF.out.below hal)
      clear hB hal hF
      generalize w13.alloc (.cells #[.bool sl, .slice pal kal cal, .slice pbl kbl cbl] 24) = W13 at *
      generalize w13.heap.size = Bl at *
      replace HVx := hid (HVx.out.below hst)
      replace HRx := hid (HRx.out.below hst)
      replace HVy := hid (HVy.out.below hst)
      replace HRy := hid (HRy.out.below hst)
      replace HVz := hid (HVz.out.below hst)
      replace HRz := hid (HRz.out.below hst)
      replace HVa := hid (HVa.out.below hst)
      replace HRa := hid (HRa.out.below hst)
      replace HVb := hid (HVb.out.below hst)
      replace HRb := hid (HRb.out.below hst)
      replace HVc := hid (HVc.out.below hst)
      replace HRc := hid (HRc.out.below hst)
      replace HVd := hid (HVd.out.below hst)
      replace HRd := hid (HRd.out.below hst)
      replace HVf := hid (HVf.out.below hst)
      replace HRf := hid (HRf.out.below hst)
      replace HVg := hid (HVg.out.below hst)
      replace HRg := hid (HRg.out.below hst)
      replace HVh := hid (HVh.out.below hst)
      replace HRh := hid (HRh.out.below hst)
      replace HVi := hid (HVi.out.below hst)
      replace HRi := hid (HRi.out.below hst)
      replace HVj := hid (HVj.out.below hst)
      replace HRj := hid (HRj.out.below hst)
      replace HVk := hid (HVk.out.below hst)
      replace HRk := hid (HRk.out.below hst)
      replace HT0 := hid (HT0.out.below hst)
      replace HB := hid (HB.out.trans (hst.mono HB.out.size))
      clear hst
      have HVl := hid hV
      have HRl := hF2
      clear hV hF2
      have hS : Hid (e3 = 0 ∧ e5 = 0 ∧ e9 = 0 ∧ e10 = 0 ∧ e11 = 0 → Calls Tryd.prog 24 #[.agg #[.bool sj, .slice paj kaj caj, .slice pbj kbj cbj], .agg #[.bool sl, .slice pal kal cal, .slice pbl kbl cbl]] W13 fun e w' => e = .returned (.bool true) ∧ Below W13.heap.size W13 w') :=
        hid fun ⟨q1, q2, q3, q4, q5⟩ => Equal_u _ _ _ _ W13 HRj.out HRl.out (few_mul) (few_add) (field_dist (q1 ▸ He3.out).symm (q2 ▸ He5.out).symm (q3 ▸ He9.out).symm (q4 ▸ He10.out).symm (q5 ▸ He11.out).symm)
      go_cut [162] from 139 to 162 (fun v wx => v = .bool false ∧ Hid (Below W13.heap.size W13 wx))
      case first =>
        obtain ⟨a0, a1, a2, _⟩ := HVj.out.cells
        obtain ⟨b0, b1, b2, _⟩ := HVl.out.cells
        have hcase : (e3 ≠ 0) ∨ (e3 = 0 ∧ e5 ≠ 0) ∨ (e3 = 0 ∧ e5 = 0 ∧ e9 ≠ 0) ∨ (e3 = 0 ∧ e5 = 0 ∧ e9 = 0 ∧ e10 ≠ 0) ∨ (e3 = 0 ∧ e5 = 0 ∧ e9 = 0 ∧ e10 = 0 ∧ e11 ≠ 0) ∨ (e3 = 0 ∧ e5 = 0 ∧ e9 = 0 ∧ e10 = 0 ∧ e11 = 0) := by omega
        rcases hcase with nz | hcase
        · have y0 : (e3 == 0) = false := by simpa using nz
          clear hS nz
          go_wp2_with fail
          go_meet
          case rel => exact ⟨rfl, hid (Below.refl _ _)⟩
        rcases hcase with ⟨z0, nz⟩ | hcase
        · have y0 : (e3 == 0) = true := by simp [z0]
          have y1 : (e5 == 0) = false := by simpa using nz
          clear hS z0 nz
          go_wp2_with fail
          go_meet
          case rel => exact ⟨rfl, hid (Below.refl _ _)⟩
        rcases hcase with ⟨z0, z1, nz⟩ | hcase
        · have y0 : (e3 == 0) = true := by simp [z0]
          have y1 : (e5 == 0) = true := by simp [z1]
          have y2 : (e9 == 0) = false := by simpa using nz
          clear hS z0 z1 nz
          go_wp2_with fail
          go_meet
          case rel => exact ⟨rfl, hid (Below.refl _ _)⟩
        rcases hcase with ⟨z0, z1, z2, nz⟩ | hcase
        · have y0 : (e3 == 0) = true := by simp [z0]
          have y1 : (e5 == 0) = true := by simp [z1]
          have y2 : (e9 == 0) = true := by simp [z2]
          have y3 : (e10 == 0) = false := by simpa using nz
          clear hS z0 z1 z2 nz
          go_wp2_with fail
          go_meet
          case rel => exact ⟨rfl, hid (Below.refl _ _)⟩
        rcases hcase with ⟨z0, z1, z2, z3, nz⟩ | hcase
        · have y0 : (e3 == 0) = true := by simp [z0]
          have y1 : (e5 == 0) = true := by simp [z1]
          have y2 : (e9 == 0) = true := by simp [z2]
          have y3 : (e10 == 0) = true := by simp [z3]
          have y4 : (e11 == 0) = false := by simpa using nz
          clear hS z0 z1 z2 z3 nz
          go_wp2_with fail
          go_meet
          case rel => exact ⟨rfl, hid (Below.refl _ _)⟩
        obtain ⟨z0, z1, z2, z3, z4⟩ := hcase
        have y0 : (e3 == 0) = true := by simp [z0]
        have y1 : (e5 == 0) = true := by simp [z1]
        have y2 : (e9 == 0) = true := by simp [z2]
        have y3 : (e10 == 0) = true := by simp [z3]
        have y4 : (e11 == 0) = true := by simp [z4]
        have hS1 := hid (hS.out ⟨z0, z1, z2, z3, z4⟩)
        clear hS z0 z1 z2 z3 z4
        go_wp2_with fail
        refine hS1.out.mono ?_
        rintro e wq ⟨rfl, hBq⟩
        clear hS1 a0 a1 a2 b0 b1 b2
        go_wp2_with fail
        go_meet
        case rel => exact ⟨rfl, hid (hBq)⟩
      case rest =>
        obtain ⟨W14, hWk⟩ : ∃ W, W = wc := ⟨_, rfl⟩
        subst hWk
        obtain ⟨rfl, hst⟩ := hcut
        replace hst := hst.out
        clear hS
        replace HVx := hid (HVx.out.below hst)
        replace HRx := hid (HRx.out.below hst)
        replace HVy := hid (HVy.out.below hst)
        replace HRy := hid (HRy.out.below hst)
        replace HVz := hid (HVz.out.below hst)
        replace HRz := hid (HRz.out.below hst)
        replace HVa := hid (HVa.out.below hst)
        replace HRa := hid (HRa.out.below hst)
        replace HVb := hid (HVb.out.below hst)
        replace HRb := hid (HRb.out.below hst)
        replace HVc := hid (HVc.out.below hst)
        replace HRc := hid (HRc.out.below hst)
        replace HVd := hid (HVd.out.below hst)
        replace HRd := hid (HRd.out.below hst)
        replace HVf := hid (HVf.out.below hst)
        replace HRf := hid (HRf.out.below hst)
        replace HVg := hid (HVg.out.below hst)
        replace HRg := hid (HRg.out.below hst)
        replace HVh := hid (HVh.out.below hst)
        replace HRh := hid (HRh.out.below hst)
        replace HVi := hid (HVi.out.below hst)
        replace HRi := hid (HRi.out.below hst)
        replace HVj := hid (HVj.out.below hst)
        replace HRj := hid (HRj.out.below hst)
        replace HVk := hid (HVk.out.below hst)
        replace HRk := hid (HRk.out.below hst)
        replace HVl := hid (HVl.out.below hst)
        replace HRl := hid (HRl.out.below hst)
        replace HT0 := hid (HT0.out.below hst)
        replace HB := hid (HB.out.trans (hst.mono HB.out.size))
        clear hst
        obtain ⟨e12, hE⟩ : ∃ c, c = subc (addt x y) y := ⟨_, rfl⟩
        have HC := hid (nSub_u _ _ _ _ W14 HRa.out HRy.out HT0.out)
        rw [← hE] at HC
        have He12 := hid hE
        clear hE
        obtain ⟨a0, a1, a2, _⟩ := HVa.out.cells
        obtain ⟨b0, b1, b2, _⟩ := HVy.out.cells
        go_wp2_with fail
        refine HC.out.mono ?_
        rintro e w15 ⟨hB, sm, pam, kam, cam, pbm, kbm, cbm, rfl, hF⟩
        clear HC a0 a1 a2 b0 b1 b2
        go_upto_region 19 with fail
        have hal := (Below.refl w15.heap.size w15).alloc (Nat.le_refl _) (.cells #[.bool sm, .slice pam kam cam, .slice pbm kbm cbm] 24)
        have hV := Var3.alloc w15 (x := .bool sm) (y := .slice pam kam cam) (z := .slice pbm kbm cbm) 24 trivial trivial trivial
        have hst := held_any hB hal
        have hF2 := hid (hF.out.below hal)
        clear hB hal hF
        generalize w15.alloc (.cells #[.bool sm, .slice pam kam cam, .slice pbm kbm cbm] 24) = W15 at *
        generalize w15.heap.size = Bm at *
        replace HVx := hid (HVx.out.below hst)
        replace HRx := hid (HRx.out.below hst)
        replace HVy := hid (HVy.out.below hst)
        replace HRy := hid (HRy.out.below hst)
        replace HVz := hid (HVz.out.below hst)
        replace HRz := hid (HRz.out.below hst)
        replace HVa := hid (HVa.out.below hst)
        replace HRa := hid (HRa.out.below hst)
        replace HVb := hid (HVb.out.below hst)
        replace HRb := hid (HRb.out.below hst)
        replace HVc := hid (HVc.out.below hst)
        replace HRc := hid (HRc.out.below hst)
        replace HVd := hid (HVd.out.below hst)
        replace HRd := hid (HRd.out.below hst)
        replace HVf := hid (HVf.out.below hst)
        replace HRf := hid (HRf.out.below hst)
        replace HVg := hid (HVg.out.below hst)
        replace HRg := hid (HRg.out.below hst)
        replace HVh := hid (HVh.out.below hst)
        replace HRh := hid (HRh.out.below hst)
        replace HVi := hid (HVi.out.below hst)
        replace HRi := hid (HRi.out.below hst)
        replace HVj := hid (HVj.out.below hst)
        replace HRj := hid (HRj.out.below hst)
        replace HVk := hid (HVk.out.below hst)
        replace HRk := hid (HRk.out.below hst)
        replace HVl := hid (HVl.out.below hst)
        replace HRl := hid (HRl.out.below hst)
        replace HT0 := hid (HT0.out.below hst)
        replace HB := hid (HB.out.trans (hst.mono HB.out.size))
        clear hst
        have HVm := hid hV
        have HRm := hF2
        clear hV hF2
        have hS : Hid (e1 = 0 ∧ e12 = 0 → Calls Tryd.prog 24 #[.agg #[.bool sm, .slice pam kam cam, .slice pbm kbm cbm], .agg #[.bool x.1, .slice pax kax cax, .slice pbx kbx cbx]] W15 fun e w' => e = .returned (.bool true) ∧ Below W15.heap.size W15 w') :=
          hid fun ⟨q1, q2⟩ => Equal_u _ _ _ _ W15 HRm.out HRx.out (few_sub) (few_large (ncode_zero (q1 ▸ He1.out).symm).1) (field_sub (q1 ▸ He1.out).symm (q2 ▸ He12.out).symm)
        go_cut [180] from 169 to 180 (fun v wx => v = .bool false ∧ Hid (Below W15.heap.size W15 wx))
        case first =>
          obtain ⟨a0, a1, a2, _⟩ := HVm.out.cells
          obtain ⟨b0, b1, b2, _⟩ := HVx.out.cells
          have hcase : (e1 ≠ 0) ∨ (e1 = 0 ∧ e12 ≠ 0) ∨ (e1 = 0 ∧ e12 = 0) := by omega
          rcases hcase with nz | hcase
          · have y0 : (e1 == 0) = false := by simpa using nz
            clear hS nz
            go_wp2_with fail
            go_meet
            case rel => exact ⟨rfl, hid (Below.refl _ _)⟩
          rcases hcase with ⟨z0, nz⟩ | hcase
          · have y0 : (e1 == 0) = true := by simp [z0]
            have y1 : (e12 == 0) = false := by simpa using nz
            clear hS z0 nz
            go_wp2_with fail
            go_meet
            case rel => exact ⟨rfl, hid (Below.refl _ _)⟩
          obtain ⟨z0, z1⟩ := hcase
          have y0 : (e1 == 0) = true := by simp [z0]
          have y1 : (e12 == 0) = true := by simp [z1]
          have hS1 := hid (hS.out ⟨z0, z1⟩)
          clear hS z0 z1
          go_wp2_with fail
          refine hS1.out.mono ?_
          rintro e wq ⟨rfl, hBq⟩
          clear hS1 a0 a1 a2 b0 b1 b2
          go_wp2_with fail
          go_meet
          case rel => exact ⟨rfl, hid (hBq)⟩
        case rest =>
          obtain ⟨W16, hWk⟩ : ∃ W, W = wc := ⟨_, rfl⟩
          subst hWk
          obtain ⟨rfl, hst⟩ := hcut
          replace hst := hst.out
          clear hS
          replace HVx := hid (HVx.out.below hst)
          replace HRx := hid (HRx.out.below hst)
          replace HVy := hid (HVy.out.below hst)
          replace HRy := hid (HRy.out.below hst)
          replace HVz := hid (HVz.out.below hst)
          replace HRz := hid (HRz.out.below hst)
          replace HVa := hid (HVa.out.below hst)
          replace HRa := hid (HRa.out.below hst)
          replace HVb := hid (HVb.out.below hst)
          replace HRb := hid (HRb.out.below hst)
          replace HVc := hid (HVc.out.below hst)
          replace HRc := hid (HRc.out.below hst)
          replace HVd := hid (HVd.out.below hst)
          replace HRd := hid (HRd.out.below hst)
          replace HVf := hid (HVf.out.below hst)
          replace HRf := hid (HRf.out.below hst)
          replace HVg := hid (HVg.out.below hst)
          replace HRg := hid (HRg.out.below hst)
          replace HVh := hid (HVh.out.below hst)
          replace HRh := hid (HRh.out.below hst)
          replace HVi := hid (HVi.out.below hst)
          replace HRi := hid (HRi.out.below hst)
          replace HVj := hid (HVj.out.below hst)
          replace HRj := hid (HRj.out.below hst)
          replace HVk := hid (HVk.out.below hst)
          replace HRk := hid (HRk.out.below hst)
          replace HVl := hid (HVl.out.below hst)
          replace HRl := hid (HRl.out.below hst)
          replace HVm := hid (HVm.out.below hst)
          replace HRm := hid (HRm.out.below hst)
          replace HT0 := hid (HT0.out.below hst)
          replace HB := hid (HB.out.trans (hst.mono HB.out.size))
          clear hst
          obtain ⟨e13, hE⟩ : ∃ c, c = divc (mult x y) y := ⟨_, rfl⟩
          have HC := hid (nDiv_u _ _ _ _ W16 HRf.out HRy.out HT0.out)
          rw [← hE] at HC
          have He13 := hid hE
          clear hE
          obtain ⟨a0, a1, a2, _⟩ := HVf.out.cells
          obtain ⟨b0, b1, b2, _⟩ := HVy.out.cells
          go_wp2_with fail
          refine HC.out.mono ?_
          rintro e w17 ⟨hB, sn, pan, kan, can, pbn, kbn, cbn, rfl, hF⟩
          clear HC a0 a1 a2 b0 b1 b2
          go_upto_region 22 with fail
          have hal := (Below.refl w17.heap.size w17).alloc (Nat.le_refl _) (.cells #[.bool sn, .slice pan kan can, .slice pbn kbn cbn] 24)
          have hV := Var3.alloc w17 (x := .bool sn) (y := .slice pan kan can) (z := .slice pbn kbn cbn) 24 trivial trivial trivial
          have hst := held_any hB hal
          have hF2 := hid (hF.out.below hal)
          clear hB hal hF
          generalize w17.alloc (.cells #[.bool sn, .slice pan kan can, .slice pbn kbn cbn] 24) = W17 at *
          generalize w17.heap.size = Bn at *
          replace HVx := hid (HVx.out.below hst)
          replace HRx := hid (HRx.out.below hst)
          replace HVy := hid (HVy.out.below hst)
          replace HRy := hid (HRy.out.below hst)
          replace HVz := hid (HVz.out.below hst)
          replace HRz := hid (HRz.out.below hst)
          replace HVa := hid (HVa.out.below hst)
          replace HRa := hid (HRa.out.below hst)
          replace HVb := hid (HVb.out.below hst)
          replace HRb := hid (HRb.out.below hst)
          replace HVc := hid (HVc.out.below hst)
          replace HRc := hid (HRc.out.below hst)
          replace HVd := hid (HVd.out.below hst)
          replace HRd := hid (HRd.out.below hst)
          replace HVf := hid (HVf.out.below hst)
          replace HRf := hid (HRf.out.below hst)
          replace HVg := hid (HVg.out.below hst)
          replace HRg := hid (HRg.out.below hst)
          replace HVh := hid (HVh.out.below hst)
          replace HRh := hid (HRh.out.below hst)
          replace HVi := hid (HVi.out.below hst)
          replace HRi := hid (HRi.out.below hst)
          replace HVj := hid (HVj.out.below hst)
          replace HRj := hid (HRj.out.below hst)
          replace HVk := hid (HVk.out.below hst)
          replace HRk := hid (HRk.out.below hst)
          replace HVl := hid (HVl.out.below hst)
          replace HRl := hid (HRl.out.below hst)
          replace HVm := hid (HVm.out.below hst)
          replace HRm := hid (HRm.out.below hst)
          replace HT0 := hid (HT0.out.below hst)
          replace HB := hid (HB.out.trans (hst.mono HB.out.size))
          clear hst
          have HVn := hid hV
          have HRn := hF2
          clear hV hF2
          have hS : Hid (e5 = 0 ∧ e13 = 0 → Calls Tryd.prog 24 #[.agg #[.bool sn, .slice pan kan can, .slice pbn kbn cbn], .agg #[.bool x.1, .slice pax kax cax, .slice pbx kbx cbx]] W17 fun e w' => e = .returned (.bool true) ∧ Below W17.heap.size W17 w') :=
            hid fun ⟨q1, q2⟩ => Equal_u _ _ _ _ W17 HRn.out HRx.out few_div (few_large (ncode_zero (q1 ▸ He5.out).symm).1) (field_div (q1 ▸ He5.out).symm (q2 ▸ He13.out).symm)
          have hA := hid (fun (W : World) (hW : Below W17.heap.size W17 W) => awake_any W (HT0.out.below hW))
          obtain ⟨a0, a1, a2, _⟩ := HVn.out.cells
          obtain ⟨b0, b1, b2, _⟩ := HVx.out.cells
          have hcase : (e5 ≠ 0) ∨ (e5 = 0 ∧ e13 ≠ 0) ∨ (e5 = 0 ∧ e13 = 0) := by omega
          rcases hcase with nz | hcase
          · have y0 : (e5 == 0) = false := by simpa using nz
            have y1 : (e5 != 0) = true := by simpa using nz
            clear hS nz
            go_wp2_with fail
            clear a0 a1 a2 b0 b1 b2
            refine (hA.out _ (Below.refl _ _)).mono ?_
            rintro e wr ⟨rfl, hBr⟩
            have hZ := hid (HB.out.trans (hBr.mono HB.out.size))
            clear hA hBr
            go_wp2_with fail
            go_ret
            exact ⟨rfl, hZ.out⟩
          rcases hcase with ⟨z0, nz⟩ | hcase
          · have y0 : (e5 == 0) = true := by simp [z0]
            have y1 : (e5 != 0) = false := by simp [z0]
            have y2 : (e13 == 0) = false := by simpa using nz
            have y3 : (e13 != 0) = true := by simpa using nz
            clear hS z0 nz
            go_wp2_with fail
            clear a0 a1 a2 b0 b1 b2
            refine (hA.out _ (Below.refl _ _)).mono ?_
            rintro e wr ⟨rfl, hBr⟩
            have hZ := hid (HB.out.trans (hBr.mono HB.out.size))
            clear hA hBr
            go_wp2_with fail
            go_ret
            exact ⟨rfl, hZ.out⟩
          obtain ⟨z0, z1⟩ := hcase
          have y0 : (e5 == 0) = true := by simp [z0]
          have y1 : (e5 != 0) = false := by simp [z0]
          have y2 : (e13 == 0) = true := by simp [z1]
          have y3 : (e13 != 0) = false := by simp [z1]
          have hS1 := hid (hS.out ⟨z0, z1⟩)
          clear hS z0 z1
          go_wp2_with fail
          refine hS1.out.mono ?_
          rintro e wq ⟨rfl, hBq⟩
          clear hS1 a0 a1 a2 b0 b1 b2
          go_wp2_with fail
          refine (hA.out _ hBq).mono ?_
          rintro e wr ⟨rfl, hBr⟩
          have hZ := hid (HB.out.trans ((held_any hBq hBr).mono HB.out.size))
          clear hA hBr
          go_wp2_with fail
          go_ret
          exact ⟨rfl, hZ.out⟩
end Go.Proofs.YtdinpeglclkjhaaDoor
