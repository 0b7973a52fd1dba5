/- The law NumberFormats. -/
import Derived.Test.YtjnfnngobkjneaaDoorStrG
import Derived.Test.YtjnfnngobkjneaaDoorLawA
namespace Go.Proofs.YtjnfnngobkjneaaDoor
open Go.RowKit Dg Dc

set_option maxHeartbeats 4000000 in
set_option maxRecDepth 100000 in
theorem NumberFormats_any (v : Value) (a : Bool × Nat × Nat) (w : World) (h : NRep w v a) (ht : TabOk w) (h10 : Tab10 w) :
    Calls Tryd.prog 4 #[v] w fun e w' => e = .returned (.bool true) ∧ Below w.heap.size w w' := by
  have HA := hid h
  obtain ⟨vn, vd, rfl, ⟨p1, k1, c1, rfl, _⟩, ⟨p2, k2, c2, rfl, _⟩⟩ := h
  obtain ⟨s1, hs1⟩ : ∃ s1, s1 = a.1 := ⟨_, rfl⟩
  rw [← hs1] at HA ⊢
  clear hs1
  have hal := (Below.refl w.heap.size w).alloc (Nat.le_refl _) (.cells #[.bool s1, .slice p1 k1 c1, .slice p2 k2 c2] 24)
  have HV := hid (Var3.alloc w (x := .bool s1) (y := .slice p1 k1 c1) (z := .slice p2 k2 c2) 24 trivial trivial trivial)
  replace HA := hid (HA.out.below hal)
  have HT := hid (And.intro (ht.below hal) (h10.below hal))
  have HB := hid hal
  clear hal ht h10
  have HN := hid (fun (W : World) (u : Value) (hh : NRep W u a) (h1 : TabOk W) (h2 : Tab10 W) => nFormat_any u a W hh h1 h2)
  have HR := hid (fun (W : World) (u : Value) (hh : NRep W u a) => rFormat_any u a W hh)
  obtain ⟨S, hS⟩ : ∃ S : ByteArray, str (fmts a) = .string S := ⟨_, rfl⟩
  obtain ⟨c, hc⟩ : ∃ c, c = fmtc a := ⟨_, rfl⟩
  rw [hS, ← hc] at HN HR
  clear hS hc
  go_enter Tryd.func4, Tryd.ntmps4
  go_upto_region 1 with fail
  generalize w.alloc (.cells #[.bool s1, .slice p1 k1 c1, .slice p2 k2 c2] 24) = W0 at *
  obtain ⟨x0, x1, x2, _⟩ := HV.out.cells
  go_wp2_with fail
  refine (HN.out _ _ HA.out HT.out.1 HT.out.2).mono ?_
  rintro e w1 ⟨rfl, hB1⟩
  replace HB := hid (HB.out.trans (hB1.mono HB.out.size))
  replace HV := hid (HV.out.below hB1)
  replace HA := hid (HA.out.below hB1)
  replace HT := hid (HT.out.1.below hB1)
  clear hB1 x0 x1 x2 HN
  obtain ⟨x0, x1, x2, _⟩ := HV.out.cells
  go_wp2_with fail
  refine (HR.out _ _ HA.out).mono ?_
  rintro e w2 ⟨rfl, hB2⟩
  replace HB := hid (HB.out.trans (hB2.mono HB.out.size))
  have HAw := hid (awake_any w2 (HT.out.below hB2))
  clear hB2 x0 x1 x2 HR
  go_wp2_with fail
  refine HAw.out.mono ?_
  rintro e w3 ⟨rfl, hB3⟩
  replace HB := hid (HB.out.trans (hB3.mono HB.out.size))
  clear hB3 HAw
  go_wp2_with fail
  go_ret
  exact ⟨rfl, HB.out⟩
end Go.Proofs.YtjnfnngobkjneaaDoor
