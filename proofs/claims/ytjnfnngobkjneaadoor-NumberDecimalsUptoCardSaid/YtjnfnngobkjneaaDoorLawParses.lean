/- The law NumberParses. -/
import Derived.Test.YtjnfnngobkjneaaDoorPrsU
namespace Go.Proofs.YtjnfnngobkjneaaDoor
open Go.RowKit Dg Dc

theorem tcode_ok {l : List UInt8} (h : tcode l = 0) : IsFr (ttrip l) ∧ big (ttrip l).2.1 (ttrip l).2.2 = false := by
  by_cases hl : 1240 < l.length
  · rw [tcode_long hl] at h; exact absurd h (by decide)
  · rcases hr : rat (body l) with _ | ⟨n, d⟩
    · rw [tcode_none hl hr] at h; exact absurd h (by decide)
    · by_cases hd : d = 0
      · subst hd
        rw [tcode_zero hl hr] at h; exact absurd h (by decide)
      · have h1 := tcode_some hl hr hd
        refine ⟨⟨neg? l, n, d, Nat.pos_of_ne_zero hd, h1.2⟩, ?_⟩
        rw [h1.1] at h
        cases hb : big (ttrip l).2.1 (ttrip l).2.2
        · rfl
        · rw [hb, if_pos rfl] at h; exact absurd h (by decide)
theorem ttrip_ok {l : List UInt8} : tcode l = 0 → Canon (resT (tcode l) (ttrip l)).1 (resT (tcode l) (ttrip l)).2.1 (resT (tcode l) (ttrip l)).2.2 ∧ Few (resT (tcode l) (ttrip l)) :=
  fun h => resT_ok (tcode_ok h).1 (fun _ => (tcode_ok h).2) h
theorem str_data (s : ByteArray) : str s.data.toList = .string s := rfl

set_option maxHeartbeats 16000000 in
set_option maxRecDepth 100000 in
theorem NumberParses_any (s : ByteArray) (w : World) (ht : TabOk w) :
    Calls Tryd.prog 3 #[.string s] w fun e w' => e = .returned (.bool true) ∧ Below w.heap.size w w' := by
  obtain ⟨g1, hg1⟩ : ∃ g, g = tcode s.data.toList := ⟨_, rfl⟩
  obtain ⟨r1, hr1⟩ : ∃ g, g = resT (tcode s.data.toList) (ttrip s.data.toList) := ⟨_, rfl⟩
  have HI1 := hid (fun (W : World) (v u : Value) (hv : FNorm W v r1) (hu : FNorm W u r1) => Is_same v u g1 r1 W hv hu (by rw [hr1, hg1]; exact ttrip_ok) (by rw [hr1, hg1]; exact resT_no))
  have HN1 := hid (fun (W : World) (h : TabOk W) => nParse_any s.data.toList W h)
  have HR1 := hid (fun (W : World) => rParse_any s.data.toList W)
  rw [← hr1, ← hg1, str_data] at HN1 HR1
  have HT0 := hid ht
  have HB := hid (Below.refl w.heap.size w)
  clear hg1 hr1 ht
  go_enter Tryd.func3, Tryd.ntmps3
  go_wp2_with fail
  refine (HN1.out _ HT0.out).mono ?_
  rintro e w1 ⟨hB1, sn1, pn1, kn1, cn1, qn1, ln1, dn1, rfl, hF⟩
  go_upto_region 2 with fail
  have hal := (Below.refl w1.heap.size w1).alloc (Nat.le_refl _) (.cells #[.bool sn1, .slice pn1 kn1 cn1, .slice qn1 ln1 dn1] 24)
  have hV := Var3.alloc w1 (x := .bool sn1) (y := .slice pn1 kn1 cn1) (z := .slice qn1 ln1 dn1) 24 trivial trivial trivial
  have hst := held_any hB1 hal
  have HF1 := hid (hF.out.below hal)
  clear hB1 hal hF
  generalize w1.alloc (.cells #[.bool sn1, .slice pn1 kn1 cn1, .slice qn1 ln1 dn1] 24) = V1 at *
  generalize w1.heap.size = B1 at *
  replace HT0 := hid (HT0.out.below hst)
  replace HB := hid (HB.out.trans (hst.mono HB.out.size))
  have HV1 := hid hV
  clear hst hV
  go_wp2_with fail
  refine (HR1.out _).mono ?_
  rintro e w2 ⟨hB1, sn2, pn2, kn2, cn2, qn2, ln2, dn2, rfl, hF⟩
  go_upto_region 3 with fail
  have hal := (Below.refl w2.heap.size w2).alloc (Nat.le_refl _) (.cells #[.bool sn2, .slice pn2 kn2 cn2, .slice qn2 ln2 dn2] 24)
  have hV := Var3.alloc w2 (x := .bool sn2) (y := .slice pn2 kn2 cn2) (z := .slice qn2 ln2 dn2) 24 trivial trivial trivial
  have hst := held_any hB1 hal
  have HF2 := hid (hF.out.below hal)
  clear hB1 hal hF
  generalize w2.alloc (.cells #[.bool sn2, .slice pn2 kn2 cn2, .slice qn2 ln2 dn2] 24) = V2 at *
  generalize w2.heap.size = B2 at *
  replace HT0 := hid (HT0.out.below hst)
  replace HV1 := hid (HV1.out.below hst)
  replace HF1 := hid (HF1.out.below hst)
  replace HB := hid (HB.out.trans (hst.mono HB.out.size))
  have HV2 := hid hV
  clear hst hV
  obtain ⟨a0, a1, a2, _⟩ := HV1.out.cells
  obtain ⟨b0, b1, b2, _⟩ := HV2.out.cells
  go_wp2_with fail
  refine (HI1.out _ _ _ HF1.out HF2.out).mono ?_
  rintro e w3 ⟨rfl, hst⟩
  clear a0 a1 a2 b0 b1 b2
  replace HT0 := hid (HT0.out.below hst)
  replace HB := hid (HB.out.trans (hst.mono HB.out.size))
  clear hst
  have HAw := hid (awake_any w3 HT0.out)
  go_wp2_with fail
  refine HAw.out.mono ?_
  rintro e w4 ⟨rfl, hst⟩
  have HZ := hid (HB.out.trans (hst.mono HB.out.size))
  clear hst
  go_wp2_with fail
  go_ret
  exact ⟨rfl, HZ.out⟩
end Go.Proofs.YtjnfnngobkjneaaDoor
