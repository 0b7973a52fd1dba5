/- The law IntervalMiddles. -/
import Derived.Test.YtheojajaefjecaaGreatDoorMidK
import Derived.Test.YtheojajaefjecaaGreatDoorAwake
namespace Go.Proofs.YtheojajaefjecaaGreatDoor
open Go.RowKit Dg
theorem midc_big {i : (Bool × Nat × Nat) × (Bool × Nat × Nat) × Bool × Bool} (h : midc i = 0) : big (mid i.1 i.2.1 i.2.2.1 i.2.2.2).2.1 (mid i.1 i.2.1 i.2.2.1 i.2.2.2).2.2 = false := by
 unfold midc at h
 cases hb : big (mid i.1 i.2.1 i.2.2.1 i.2.2.2).2.1 (mid i.1 i.2.1 i.2.2.1 i.2.2.2).2.2
 ·rfl
 ·rw [hb] at h
  cases hl : ilarge i
  ·rw [hl] at h
   cases he : (srd i).2.2
   ·rw [he] at h
    exact absurd h (by decide)
   ·rw [he] at h
    exact absurd h (by decide)
  ·rw [hl] at h
   exact absurd h (by simp)
set_option maxHeartbeats 4000000 in
set_option maxRecDepth 100000 in
theorem midlaw (s1 : Bool) (p1 : Option Addr) (k1 c1 : Nat) (q1 : Option Addr) (l1 d1 : Nat) (sz1 : Bool) (pz1 : Option Addr) (kz1 cz1 : Nat) (qz1 : Option Addr) (lz1 dz1 : Nat) (x1 : Bool) (y1 : Bool) (c : Int) (t : Bool × Nat × Nat) (w : World)
  (HP : Hid (∀ W, Below w.heap.size w W → Calls Tryz.prog 10 #[.agg #[.bool s1, .slice p1 k1 c1, .slice q1 l1 d1, .bool sz1, .slice pz1 kz1 cz1, .slice qz1 lz1 dz1, .bool x1, .bool y1]] W fun e w' => Below W.heap.size W w' ∧ URF w' e c t))
  (HR : Hid (∀ W, Below w.heap.size w W → Calls Tryz.prog 11 #[.agg #[.bool s1, .slice p1 k1 c1, .slice q1 l1 d1, .bool sz1, .slice pz1 kz1 cz1, .slice qz1 lz1 dz1, .bool x1, .bool y1]] W fun e w' => Below W.heap.size W w' ∧ URF w' e c t))
  (HI : Hid (∀ W v u, FNorm W v t → FNorm W u t → Calls Tryz.prog 12 #[v, .int .i64 c, u, .int .i64 c] W fun e w' => e = .returned (.bool true) ∧ Below W.heap.size W w'))
  (HH : Hid (c = 0 → ∀ W (s4 : Bool) (p4 : Option Addr) (k4 c4 : Nat) (q4 : Option Addr) (l4 d4 : Nat), Below w.heap.size w W → FNorm W (.agg #[.bool s4, .slice p4 k4 c4, .slice q4 l4 d4]) t → Calls Tryz.prog 14 #[.agg #[.bool s1, .slice p1 k1 c1, .slice q1 l1 d1, .bool sz1, .slice pz1 kz1 cz1, .slice qz1 lz1 dz1, .bool x1, .bool y1], .agg #[.bool s4, .slice p4 k4 c4, .slice q4 l4 d4]] W fun e w' => e = .returned (.tuple #[.bool true, .int .i64 0]) ∧ Below W.heap.size W w'))
  (HA : Hid (∀ W, Below w.heap.size w W → Calls Tryz.prog 13 #[] W fun e w' => e = .returned (.bool true) ∧ Below W.heap.size W w')) :
  Calls Tryz.prog 3 #[.agg #[.bool s1, .slice p1 k1 c1, .slice q1 l1 d1, .bool sz1, .slice pz1 kz1 cz1, .slice qz1 lz1 dz1, .bool x1, .bool y1]] w fun e w' => e = .returned (.bool true) ∧ Below w.heap.size w w' := by
 by_cases hc : c = 0
 ·subst hc
  replace HH := hid (HH.out rfl)
  go_enter Tryz.func3, Tryz.ntmps3
  go_wp2_with fail
  have HV := hid (pre1 w [.bool s1, .slice p1 k1 c1, .slice q1 l1 d1, .bool sz1, .slice pz1 kz1 cz1, .slice qz1 lz1 dz1, .bool x1, .bool y1] 26 nd8)
  generalize w.alloc (.cells #[.bool s1, .slice p1 k1 c1, .slice q1 l1 d1, .bool sz1, .slice pz1 kz1 cz1, .slice qz1 lz1 dz1, .bool x1, .bool y1] 26) = W0 at *
  refine (HP.out _ HV.out.2).mono ?_
  rintro e w1 ⟨hB1, s4, p4, k4, c4, q4, l4, d4, rfl, hF1⟩
  have HB := hid (HV.out.2.trans (hB1.mono HV.out.2.size))
  have HX := hid (HV.out.1.below hB1)
  clear hB1 HV
  go_upto_region 2 with fail
  have HY := hid (pre1 w1 [.bool s4, .slice p4 k4 c4, .slice q4 l4 d4] 24 nd3)
  have hl1 := (HX.out).lt
  generalize w1.alloc (.cells #[.bool s4, .slice p4 k4 c4, .slice q4 l4 d4] 24) = W1 at *
  replace HX := hid (HX.out.below HY.out.2)
  replace HB := hid (HB.out.trans (HY.out.2.mono HB.out.size))
  have HF1 := hid (hF1.out.below HY.out.2)
  replace HY := hid HY.out.1
  clear hF1
  generalize w1.heap.size = B1 at *
  obtain ⟨m0, m1, m2, m3, m4, m5, m6, m7, _⟩ := HX.out.cells8
  obtain ⟨n0, n1, n2, _⟩ := HY.out.cells3
  go_wp2_with fail
  refine (HR.out _ HB.out).mono ?_
  rintro e w2 ⟨hB1, s5, p5, k5, c5, q5, l5, d5, rfl, hF2⟩
  replace HX := hid (HX.out.below hB1)
  replace HY := hid (HY.out.below hB1)
  replace HF1 := hid (HF1.out.below hB1)
  replace HB := hid (HB.out.trans (hB1.mono HB.out.size))
  clear hB1 m0 m1 m2 m3 m4 m5 m6 m7 n0 n1 n2
  go_upto_region 3 with fail
  have HZ := hid (pre1 w2 [.bool s5, .slice p5 k5 c5, .slice q5 l5 d5] 24 nd3)
  have hl2 := (HX.out).lt
  have hl3 := (HY.out).lt
  generalize w2.alloc (.cells #[.bool s5, .slice p5 k5 c5, .slice q5 l5 d5] 24) = W2 at *
  replace HX := hid (HX.out.below HZ.out.2)
  replace HY := hid (HY.out.below HZ.out.2)
  replace HF1 := hid (HF1.out.below HZ.out.2)
  have HF2 := hid (hF2.out.below HZ.out.2)
  replace HB := hid (HB.out.trans (HZ.out.2.mono HB.out.size))
  replace HZ := hid HZ.out.1
  clear hF2
  generalize w2.heap.size = B2 at *
  obtain ⟨m0, m1, m2, m3, m4, m5, m6, m7, _⟩ := HX.out.cells8
  obtain ⟨n0, n1, n2, _⟩ := HY.out.cells3
  obtain ⟨o0, o1, o2, _⟩ := HZ.out.cells3
  go_wp2_with fail
  refine (HI.out _ _ _ HF1.out HF2.out).mono ?_
  rintro e w3 ⟨rfl, hB1⟩
  replace HX := hid (HX.out.below hB1)
  replace HY := hid (HY.out.below hB1)
  replace HF1 := hid (HF1.out.below hB1)
  replace HB := hid (HB.out.trans (hB1.mono HB.out.size))
  clear hB1 m0 m1 m2 m3 m4 m5 m6 m7 n0 n1 n2 o0 o1 o2
  obtain ⟨m0, m1, m2, m3, m4, m5, m6, m7, _⟩ := HX.out.cells8
  obtain ⟨n0, n1, n2, _⟩ := HY.out.cells3
  go_wp2_with fail
  refine (HH.out _ s4 p4 k4 c4 q4 l4 d4 HB.out HF1.out).mono ?_
  rintro e w4 ⟨rfl, hB1⟩
  replace HB := hid (HB.out.trans (hB1.mono HB.out.size))
  clear hB1 m0 m1 m2 m3 m4 m5 m6 m7 n0 n1 n2
  go_wp2_with fail
  refine (HA.out _ HB.out).mono ?_
  rintro e w9 ⟨rfl, hB9⟩
  have HE9 := hid ((HB.out).trans (hB9.mono (HB.out).size))
  clear hB9
  go_wp2_with fail
  go_ret
  exact ⟨rfl, HE9.out⟩
 ·have hz : (c == 0) = false := by simpa using hc
  clear hc
  go_enter Tryz.func3, Tryz.ntmps3
  go_wp2_with fail
  have HV := hid (pre1 w [.bool s1, .slice p1 k1 c1, .slice q1 l1 d1, .bool sz1, .slice pz1 kz1 cz1, .slice qz1 lz1 dz1, .bool x1, .bool y1] 26 nd8)
  generalize w.alloc (.cells #[.bool s1, .slice p1 k1 c1, .slice q1 l1 d1, .bool sz1, .slice pz1 kz1 cz1, .slice qz1 lz1 dz1, .bool x1, .bool y1] 26) = W0 at *
  refine (HP.out _ HV.out.2).mono ?_
  rintro e w1 ⟨hB1, s4, p4, k4, c4, q4, l4, d4, rfl, hF1⟩
  have HB := hid (HV.out.2.trans (hB1.mono HV.out.2.size))
  have HX := hid (HV.out.1.below hB1)
  clear hB1 HV
  go_upto_region 2 with fail
  have HY := hid (pre1 w1 [.bool s4, .slice p4 k4 c4, .slice q4 l4 d4] 24 nd3)
  have hl1 := (HX.out).lt
  generalize w1.alloc (.cells #[.bool s4, .slice p4 k4 c4, .slice q4 l4 d4] 24) = W1 at *
  replace HX := hid (HX.out.below HY.out.2)
  replace HB := hid (HB.out.trans (HY.out.2.mono HB.out.size))
  have HF1 := hid (hF1.out.below HY.out.2)
  replace HY := hid HY.out.1
  clear hF1
  generalize w1.heap.size = B1 at *
  obtain ⟨m0, m1, m2, m3, m4, m5, m6, m7, _⟩ := HX.out.cells8
  obtain ⟨n0, n1, n2, _⟩ := HY.out.cells3
  go_wp2_with fail
  refine (HR.out _ HB.out).mono ?_
  rintro e w2 ⟨hB1, s5, p5, k5, c5, q5, l5, d5, rfl, hF2⟩
  replace HX := hid (HX.out.below hB1)
  replace HY := hid (HY.out.below hB1)
  replace HF1 := hid (HF1.out.below hB1)
  replace HB := hid (HB.out.trans (hB1.mono HB.out.size))
  clear hB1 m0 m1 m2 m3 m4 m5 m6 m7 n0 n1 n2
  go_upto_region 3 with fail
  have HZ := hid (pre1 w2 [.bool s5, .slice p5 k5 c5, .slice q5 l5 d5] 24 nd3)
  have hl2 := (HX.out).lt
  have hl3 := (HY.out).lt
  generalize w2.alloc (.cells #[.bool s5, .slice p5 k5 c5, .slice q5 l5 d5] 24) = W2 at *
  replace HX := hid (HX.out.below HZ.out.2)
  replace HY := hid (HY.out.below HZ.out.2)
  replace HF1 := hid (HF1.out.below HZ.out.2)
  have HF2 := hid (hF2.out.below HZ.out.2)
  replace HB := hid (HB.out.trans (HZ.out.2.mono HB.out.size))
  replace HZ := hid HZ.out.1
  clear hF2
  generalize w2.heap.size = B2 at *
  obtain ⟨m0, m1, m2, m3, m4, m5, m6, m7, _⟩ := HX.out.cells8
  obtain ⟨n0, n1, n2, _⟩ := HY.out.cells3
  obtain ⟨o0, o1, o2, _⟩ := HZ.out.cells3
  go_wp2_with fail
  refine (HI.out _ _ _ HF1.out HF2.out).mono ?_
  rintro e w3 ⟨rfl, hB1⟩
  replace HX := hid (HX.out.below hB1)
  replace HY := hid (HY.out.below hB1)
  replace HF1 := hid (HF1.out.below hB1)
  replace HB := hid (HB.out.trans (hB1.mono HB.out.size))
  clear hB1 m0 m1 m2 m3 m4 m5 m6 m7 n0 n1 n2 o0 o1 o2
  go_wp2_with fail
  refine (HA.out _ HB.out).mono ?_
  rintro e w9 ⟨rfl, hB9⟩
  have HE9 := hid ((HB.out).trans (hB9.mono (HB.out).size))
  clear hB9
  go_wp2_with fail
  go_ret
  exact ⟨rfl, HE9.out⟩
theorem IntervalMiddles_any (v : Value) (i : (Bool × Nat × Nat) × (Bool × Nat × Nat) × Bool × Bool) (w : World) (ha : IRep w v i) (ht : TabOk w) :
  Calls Tryz.prog 3 #[v] w fun e w' => e = .returned (.bool true) ∧ Below w.heap.size w w' := by
 obtain ⟨s1, p1, k1, c1, q1, l1, d1, sz1, pz1, kz1, cz1, qz1, lz1, dz1, x1, y1, rfl, h1, h2, rfl, rfl⟩ := ha
 have HI : Hid (∀ W v u, FNorm W v (midt (i.1, i.2.1, i.2.2.1, i.2.2.2)) → FNorm W u (midt (i.1, i.2.1, i.2.2.1, i.2.2.2)) → Calls Tryz.prog 12 #[v, .int .i64 (midc (i.1, i.2.1, i.2.2.1, i.2.2.2)), u, .int .i64 (midc (i.1, i.2.1, i.2.2.1, i.2.2.2))] W fun e w' => e = .returned (.bool true) ∧ Below W.heap.size W w') :=
  hid fun W v u hv hu => Is_same v u _ _ W hv hu (resT_ok IsFr.mid midc_big) resT_no
 refine midlaw s1 p1 k1 c1 q1 l1 d1 sz1 pz1 kz1 cz1 qz1 lz1 dz1 _ _ (midc (i.1, i.2.1, i.2.2.1, i.2.2.2)) (midt (i.1, i.2.1, i.2.2.1, i.2.2.2)) w
  (hid fun W hW => iMiddle_any s1 p1 k1 c1 q1 l1 d1 sz1 pz1 kz1 cz1 qz1 lz1 dz1 _ _ i.1 i.2.1 W (h1.below hW) (h2.below hW) (ht.below hW))
  (hid fun W hW => jMiddle_any s1 p1 k1 c1 q1 l1 d1 sz1 pz1 kz1 cz1 qz1 lz1 dz1 _ _ i.1 i.2.1 W (h1.below hW) (h2.below hW)) HI ?_ (hid fun W hW => awake3_any W (ht.below hW))
 refine hid fun hc W s4 p4 k4 c4 q4 l4 d4 hW hF => ?_
 have hb := midc_big hc
 have e1 : midt (i.1, i.2.1, i.2.2.1, i.2.2.2) = outF (mid i.1 i.2.1 i.2.2.1 i.2.2.2) := by unfold midt; rw [hc]; rfl
 have hh := mid_has hc
 rw [e1] at hF hh
 have k := iHas_any s1 p1 k1 c1 q1 l1 d1 sz1 pz1 kz1 cz1 qz1 lz1 dz1 i.2.2.1 i.2.2.2 s4 p4 k4 c4 q4 l4 d4 i.1 i.2.1 (outF (mid i.1 i.2.1 i.2.2.1 i.2.2.2)) W (h1.below hW) (h2.below hW) (frep_arep (big_lt hb) hF) (ht.below hW)
 rw [hh.1, hh.2] at k
 exact k
end Go.Proofs.YtheojajaefjecaaGreatDoor
