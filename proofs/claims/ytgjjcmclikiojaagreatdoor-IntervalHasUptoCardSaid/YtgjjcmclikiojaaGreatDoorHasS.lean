/- Sets of the reference: reading, with infinite ends. -/
import Derived.Test.YtgjjcmclikiojaaGreatDoorHasR
namespace Go.Proofs.YtgjjcmclikiojaaGreatDoor
open Go.RowKit Dg

/-- The result, closed. -/
def JOut (w : World) (r : (Bool × Nat × Nat) × (Bool × Nat × Nat) × Bool × Bool × Bool) (e : Ending) (w' : World) : Prop := ∃ s2 p2 k2 c2 q2 l2 d2 sz2 pz2 kz2 cz2 qz2 lz2 dz2 x2 y2 e2, e = .returned (.agg #[.bool s2, .slice p2 k2 c2, .slice q2 l2 d2, .bool sz2, .slice pz2 kz2 cz2, .slice qz2 lz2 dz2, .bool x2, .bool y2, .bool e2]) ∧ Hid (JRep w' (.agg #[.bool s2, .slice p2 k2 c2, .slice q2 l2 d2, .bool sz2, .slice pz2 kz2 cz2, .slice qz2 lz2 dz2, .bool x2, .bool y2, .bool e2]) r) ∧ Below w.heap.size w w'

set_option maxHeartbeats 4000000 in
set_option maxRecDepth 100000 in
theorem jOf_tt (s1 : Bool) (p1 : Option Addr) (k1 c1 : Nat) (q1 : Option Addr) (l1 d1 : Nat) (sz1 : Bool) (pz1 : Option Addr) (kz1 cz1 : Nat) (qz1 : Option Addr) (lz1 dz1 : Nat) (a b : Bool × Nat × Nat) (w : World) (ha : NRep w (.agg #[.bool s1, .slice p1 k1 c1, .slice q1 l1 d1]) a) (hb : NRep w (.agg #[.bool sz1, .slice pz1 kz1 cz1, .slice qz1 lz1 dz1]) b) (h1 : large a.2.1 a.2.2 = false) (h2 : large b.2.1 b.2.2 = false) :
    Calls Tryz.prog 121 #[.agg #[.bool s1, .slice p1 k1 c1, .slice q1 l1 d1, .bool sz1, .slice pz1 kz1 cz1, .slice qz1 lz1 dz1, .bool true, .bool true]] w fun e w' => ∃ s2 p2 k2 c2 q2 l2 d2 sz2 pz2 kz2 cz2 qz2 lz2 dz2 x2 y2 e2, e = .returned (.agg #[.bool s2, .slice p2 k2 c2, .slice q2 l2 d2, .bool sz2, .slice pz2 kz2 cz2, .slice qz2 lz2 dz2, .bool x2, .bool y2, .bool e2]) ∧ Hid (JRep w' (.agg #[.bool s2, .slice p2 k2 c2, .slice q2 l2 d2, .bool sz2, .slice pz2 kz2 cz2, .slice qz2 lz2 dz2, .bool x2, .bool y2, .bool e2]) (jof (a, b, true, true))) ∧ Below w.heap.size w w' := by
  have HL := hid (fun (W : World) (hW : Below w.heap.size w W) => rOfF_any (.agg #[.bool s1, .slice p1 k1 c1, .slice q1 l1 d1]) a W (ha.below hW) h1)
  have HH := hid (fun (W : World) (hW : Below w.heap.size w W) => rOfF_any (.agg #[.bool sz1, .slice pz1 kz1 cz1, .slice qz1 lz1 dz1]) b W (hb.below hW) h2)
  have hbx := fr_bd h1
  have hby := fr_bd h2
  have HCm := hid (fun (W : World) (v1 v2 : Value) (q1 : QNorm W v1 (fr a)) (q2 : QNorm W v2 (fr b)) => rCmp_any v1 v2 (fr a) (fr b) 128 W q1 q2 (lt_W_B6 hbx.1 (by omega)) (lt_W_B6 hbx.2 (by omega)) (lt_W_B6 hby.1 (by omega)) (lt_W_B6 hby.2 (by omega)) (by omega) (frac_pos (den1_pos _)) (frac_pos (den1_pos _)))
  clear ha hb h1 h2 hbx hby
  obtain ⟨ra, hra⟩ : ∃ r, r = fr a := ⟨_, rfl⟩
  obtain ⟨rb, hrb⟩ : ∃ r, r = fr b := ⟨_, rfl⟩
  obtain ⟨rc, hrc⟩ : ∃ r, r = fcmp (fr a) (fr b) := ⟨_, rfl⟩
  have hj : jof (a, b, true, true) = if !true && !true && decide (0 < rc) then jnone else (if true then (false, 0, 0) else ra, if true then (false, 0, 0) else rb, true, true, false) := by
    rw [hra, hrb, hrc]; rfl
  rw [hj]
  rw [← hrc, ← hra, ← hrb] at HCm
  rw [← hra] at HL
  rw [← hrb] at HH
  clear hj hra hrb hrc
  obtain ⟨r, hr⟩ : ∃ r, r = (if !true && !true && decide (0 < rc) then jnone else (if true then (false, 0, 0) else ra, if true then (false, 0, 0) else rb, true, true, false)) := ⟨_, rfl⟩
  rw [← hr]
  have HX := hid hr
  clear hr
  show Calls _ _ _ _ (JOut w r)
  go_enter Tryz.func121, Tryz.ntmps121
  go_upto_region 8 with fail
  have HV := hid (pre3 w [.bool s1, .slice p1 k1 c1, .slice q1 l1 d1, .bool sz1, .slice pz1 kz1 cz1, .slice qz1 lz1 dz1, .bool true, .bool true] [.bool false, .slice none 0 0, .slice none 0 0, .bool false, .slice none 0 0, .slice none 0 0, .bool false, .bool false, .bool false] [.bool false, .slice none 0 0, .slice none 0 0, .bool false, .slice none 0 0, .slice none 0 0, .bool true, .bool true, .bool false] 26 69 69 ⟨trivial, trivial, trivial, trivial, trivial, trivial, trivial, trivial, trivial⟩ ⟨trivial, trivial, trivial, trivial, trivial, trivial, trivial, trivial, trivial, trivial⟩ ⟨trivial, trivial, trivial, trivial, trivial, trivial, trivial, trivial, trivial, trivial⟩)
  generalize ((w.alloc (.cells #[.bool s1, .slice p1 k1 c1, .slice q1 l1 d1, .bool sz1, .slice pz1 kz1 cz1, .slice qz1 lz1 dz1, .bool true, .bool true] 26)).alloc (.cells #[.bool false, .slice none 0 0, .slice none 0 0, .bool false, .slice none 0 0, .slice none 0 0, .bool false, .bool false, .bool false] 69)).alloc (.cells #[.bool false, .slice none 0 0, .slice none 0 0, .bool false, .slice none 0 0, .slice none 0 0, .bool true, .bool true, .bool false] 69) = W0 at *
  obtain ⟨a0, a1, a2, a3, a4, a5, a6, a7, _⟩ := HV.out.1.cells8
  obtain ⟨u0, u1, u2, u3, u4, u5, u6, u7, u8, u9, u10, u11, u12, u13, u14, u15, u16, u17⟩ := HV.out.2.1.cells9
  obtain ⟨v0, v1, v2, v3, v4, v5, v6, v7, v8, _⟩ := HV.out.2.2.1.cells9
  go_wp2_with fail
  have hr1 : r = ((false, 0, 0), (false, 0, 0), true, true, false) := by rw [HX.out]; rfl
  exact jOf_ret rfl (HV.out.2.1.stores [.bool false, .slice none 0 0, .slice none 0 0, .bool false, .slice none 0 0, .slice none 0 0, .bool true, .bool true, .bool false] rfl ⟨trivial, trivial, trivial, trivial, trivial, trivial, trivial, trivial, trivial, trivial⟩) (by unfold JOut; exact ⟨_, _, _, _, _, _, _, _, _, _, _, _, _, _, _, _, _, rfl, hid ⟨_, _, _, _, _, _, _, _, _, _, _, _, _, _, _, _, _, rfl, by rw [hr1]; exact QNorm.zero _, by rw [hr1]; exact QNorm.zero _, by rw [hr1], by rw [hr1], by rw [hr1]⟩, Below.stores (k := 0) (l := [.bool false, .slice none 0 0, .slice none 0 0, .bool false, .slice none 0 0, .slice none 0 0, .bool true, .bool true, .bool false]) HV.out.2.2.2 (by omega)⟩)

set_option maxHeartbeats 4000000 in
set_option maxRecDepth 100000 in
theorem jOf_tf (s1 : Bool) (p1 : Option Addr) (k1 c1 : Nat) (q1 : Option Addr) (l1 d1 : Nat) (sz1 : Bool) (pz1 : Option Addr) (kz1 cz1 : Nat) (qz1 : Option Addr) (lz1 dz1 : Nat) (a b : Bool × Nat × Nat) (w : World) (ha : NRep w (.agg #[.bool s1, .slice p1 k1 c1, .slice q1 l1 d1]) a) (hb : NRep w (.agg #[.bool sz1, .slice pz1 kz1 cz1, .slice qz1 lz1 dz1]) b) (h1 : large a.2.1 a.2.2 = false) (h2 : large b.2.1 b.2.2 = false) :
    Calls Tryz.prog 121 #[.agg #[.bool s1, .slice p1 k1 c1, .slice q1 l1 d1, .bool sz1, .slice pz1 kz1 cz1, .slice qz1 lz1 dz1, .bool true, .bool false]] w fun e w' => ∃ s2 p2 k2 c2 q2 l2 d2 sz2 pz2 kz2 cz2 qz2 lz2 dz2 x2 y2 e2, e = .returned (.agg #[.bool s2, .slice p2 k2 c2, .slice q2 l2 d2, .bool sz2, .slice pz2 kz2 cz2, .slice qz2 lz2 dz2, .bool x2, .bool y2, .bool e2]) ∧ Hid (JRep w' (.agg #[.bool s2, .slice p2 k2 c2, .slice q2 l2 d2, .bool sz2, .slice pz2 kz2 cz2, .slice qz2 lz2 dz2, .bool x2, .bool y2, .bool e2]) (jof (a, b, true, false))) ∧ Below w.heap.size w w' := by
  have HL := hid (fun (W : World) (hW : Below w.heap.size w W) => rOfF_any (.agg #[.bool s1, .slice p1 k1 c1, .slice q1 l1 d1]) a W (ha.below hW) h1)
  have HH := hid (fun (W : World) (hW : Below w.heap.size w W) => rOfF_any (.agg #[.bool sz1, .slice pz1 kz1 cz1, .slice qz1 lz1 dz1]) b W (hb.below hW) h2)
  have hbx := fr_bd h1
  have hby := fr_bd h2
  have HCm := hid (fun (W : World) (v1 v2 : Value) (q1 : QNorm W v1 (fr a)) (q2 : QNorm W v2 (fr b)) => rCmp_any v1 v2 (fr a) (fr b) 128 W q1 q2 (lt_W_B6 hbx.1 (by omega)) (lt_W_B6 hbx.2 (by omega)) (lt_W_B6 hby.1 (by omega)) (lt_W_B6 hby.2 (by omega)) (by omega) (frac_pos (den1_pos _)) (frac_pos (den1_pos _)))
  clear ha hb h1 h2 hbx hby
  obtain ⟨ra, hra⟩ : ∃ r, r = fr a := ⟨_, rfl⟩
  obtain ⟨rb, hrb⟩ : ∃ r, r = fr b := ⟨_, rfl⟩
  obtain ⟨rc, hrc⟩ : ∃ r, r = fcmp (fr a) (fr b) := ⟨_, rfl⟩
  have hj : jof (a, b, true, false) = if !true && !false && decide (0 < rc) then jnone else (if true then (false, 0, 0) else ra, if false then (false, 0, 0) else rb, true, false, false) := by
    rw [hra, hrb, hrc]; rfl
  rw [hj]
  rw [← hrc, ← hra, ← hrb] at HCm
  rw [← hra] at HL
  rw [← hrb] at HH
  clear hj hra hrb hrc
  obtain ⟨r, hr⟩ : ∃ r, r = (if !true && !false && decide (0 < rc) then jnone else (if true then (false, 0, 0) else ra, if false then (false, 0, 0) else rb, true, false, false)) := ⟨_, rfl⟩
  rw [← hr]
  have HX := hid hr
  clear hr
  go_enter Tryz.func121, Tryz.ntmps121
  go_wp2_with fail
  have HV := hid (pre3 w [.bool s1, .slice p1 k1 c1, .slice q1 l1 d1, .bool sz1, .slice pz1 kz1 cz1, .slice qz1 lz1 dz1, .bool true, .bool false] [.bool false, .slice none 0 0, .slice none 0 0, .bool false, .slice none 0 0, .slice none 0 0, .bool false, .bool false, .bool false] [.bool false, .slice none 0 0, .slice none 0 0, .bool false, .slice none 0 0, .slice none 0 0, .bool true, .bool false, .bool false] 26 69 69 ⟨trivial, trivial, trivial, trivial, trivial, trivial, trivial, trivial, trivial⟩ ⟨trivial, trivial, trivial, trivial, trivial, trivial, trivial, trivial, trivial, trivial⟩ ⟨trivial, trivial, trivial, trivial, trivial, trivial, trivial, trivial, trivial, trivial⟩)
  generalize ((w.alloc (.cells #[.bool s1, .slice p1 k1 c1, .slice q1 l1 d1, .bool sz1, .slice pz1 kz1 cz1, .slice qz1 lz1 dz1, .bool true, .bool false] 26)).alloc (.cells #[.bool false, .slice none 0 0, .slice none 0 0, .bool false, .slice none 0 0, .slice none 0 0, .bool false, .bool false, .bool false] 69)).alloc (.cells #[.bool false, .slice none 0 0, .slice none 0 0, .bool false, .slice none 0 0, .slice none 0 0, .bool true, .bool false, .bool false] 69) = W0 at *
  refine (HH.out _ HV.out.2.2.2).mono ?_
  rintro e w1 ⟨s4, p4, k4, c4, q4, l4, d4, rfl, hF, hB⟩
  have HK := hid (And.intro (HV.out.1.below hB) (And.intro (HV.out.2.1.below hB) (And.intro (HV.out.2.2.1.below hB) (HV.out.2.2.2.trans (hB.mono HV.out.2.2.2.size)))))
  clear hB
  obtain ⟨n0, n1, n2, n3, n4, n5, n6, n7, n8, n9, n10, n11, n12, n13, n14, n15, n16, n17⟩ := HK.out.2.2.1.cells9
  obtain ⟨m0, m1, m2, m3, m4, m5, m6, m7, _⟩ := HK.out.1.cells8
  go_upto_region 8 with fail
  have HI : Box (((w1.setCell ⟨w.heap.size + 1 + 1, 3, none⟩ (.bool s4)).setCell ⟨w.heap.size + 1 + 1, 4, none⟩ (.slice p4 k4 c4)).setCell ⟨w.heap.size + 1 + 1, 5, none⟩ (.slice q4 l4 d4)) (w.heap.size + 1 + 1) #[.bool false, .slice none 0 0, .slice none 0 0, .bool s4, .slice p4 k4 c4, .slice q4 l4 d4, .bool true, .bool false, .bool false] := ((HK.out.2.2.1.set 3 (.bool s4) trivial).set 4 (.slice p4 k4 c4) trivial).set 5 (.slice q4 l4 d4) trivial
  have HJ := hid (And.intro (show Box (((w1.setCell ⟨w.heap.size + 1 + 1, 3, none⟩ (.bool s4)).setCell ⟨w.heap.size + 1 + 1, 4, none⟩ (.slice p4 k4 c4)).setCell ⟨w.heap.size + 1 + 1, 5, none⟩ (.slice q4 l4 d4)) w.heap.size _ from Box.stores_other (k := 3) (l := [.bool s4, .slice p4 k4 c4, .slice q4 l4 d4]) HK.out.1 (by omega)) (And.intro (show Box (((w1.setCell ⟨w.heap.size + 1 + 1, 3, none⟩ (.bool s4)).setCell ⟨w.heap.size + 1 + 1, 4, none⟩ (.slice p4 k4 c4)).setCell ⟨w.heap.size + 1 + 1, 5, none⟩ (.slice q4 l4 d4)) (w.heap.size + 1) _ from Box.stores_other (k := 3) (l := [.bool s4, .slice p4 k4 c4, .slice q4 l4 d4]) HK.out.2.1 (by omega)) (And.intro HI (show Below w.heap.size w (((w1.setCell ⟨w.heap.size + 1 + 1, 3, none⟩ (.bool s4)).setCell ⟨w.heap.size + 1 + 1, 4, none⟩ (.slice p4 k4 c4)).setCell ⟨w.heap.size + 1 + 1, 5, none⟩ (.slice q4 l4 d4)) from Below.stores (k := 3) (l := [.bool s4, .slice p4 k4 c4, .slice q4 l4 d4]) HK.out.2.2.2 (by omega)))))
  have HS := hid (show QNorm (((w1.setCell ⟨w.heap.size + 1 + 1, 3, none⟩ (.bool s4)).setCell ⟨w.heap.size + 1 + 1, 4, none⟩ (.slice p4 k4 c4)).setCell ⟨w.heap.size + 1 + 1, 5, none⟩ (.slice q4 l4 d4)) (.agg #[.bool s4, .slice p4 k4 c4, .slice q4 l4 d4]) rb from QNorm.stores (k := 3) (l := [.bool s4, .slice p4 k4 c4, .slice q4 l4 d4]) hF.out HK.out.2.2.1 ⟨trivial, trivial, trivial, trivial⟩)
  clear HI
  generalize (((w1.setCell ⟨w.heap.size + 1 + 1, 3, none⟩ (.bool s4)).setCell ⟨w.heap.size + 1 + 1, 4, none⟩ (.slice p4 k4 c4)).setCell ⟨w.heap.size + 1 + 1, 5, none⟩ (.slice q4 l4 d4)) = W1 at *
  clear n0 n1 n2 n3 n4 n5 n6 n7 n8 n9 n10 n11 n12 n13 n14 n15 n16 n17 m0 m1 m2 m3 m4 m5 m6 m7
  obtain ⟨a0, a1, a2, a3, a4, a5, a6, a7, _⟩ := HJ.out.1.cells8
  obtain ⟨u0, u1, u2, u3, u4, u5, u6, u7, u8, u9, u10, u11, u12, u13, u14, u15, u16, u17⟩ := HJ.out.2.1.cells9
  obtain ⟨v0, v1, v2, v3, v4, v5, v6, v7, v8, _⟩ := HJ.out.2.2.1.cells9
  go_wp2_with fail
  have hr1 : r = ((false, 0, 0), rb, true, false, false) := by rw [HX.out]; rfl
  exact jOf_ret rfl (HJ.out.2.1.stores [.bool false, .slice none 0 0, .slice none 0 0, .bool s4, .slice p4 k4 c4, .slice q4 l4 d4, .bool true, .bool false, .bool false] rfl ⟨trivial, trivial, trivial, trivial, trivial, trivial, trivial, trivial, trivial, trivial⟩) ⟨_, _, _, _, _, _, _, _, _, _, _, _, _, _, _, _, _, rfl, hid ⟨_, _, _, _, _, _, _, _, _, _, _, _, _, _, _, _, _, rfl, by rw [hr1]; exact QNorm.zero _, by rw [hr1]; exact QNorm.stores (k := 0) (l := [.bool false, .slice none 0 0, .slice none 0 0, .bool s4, .slice p4 k4 c4, .slice q4 l4 d4, .bool true, .bool false, .bool false]) HS.out HJ.out.2.1 ⟨trivial, trivial, trivial, trivial, trivial, trivial, trivial, trivial, trivial, trivial⟩, by rw [hr1], by rw [hr1], by rw [hr1]⟩, Below.stores (k := 0) (l := [.bool false, .slice none 0 0, .slice none 0 0, .bool s4, .slice p4 k4 c4, .slice q4 l4 d4, .bool true, .bool false, .bool false]) HJ.out.2.2.2 (by omega)⟩

set_option maxHeartbeats 4000000 in
set_option maxRecDepth 100000 in
theorem jOf_ft (s1 : Bool) (p1 : Option Addr) (k1 c1 : Nat) (q1 : Option Addr) (l1 d1 : Nat) (sz1 : Bool) (pz1 : Option Addr) (kz1 cz1 : Nat) (qz1 : Option Addr) (lz1 dz1 : Nat) (a b : Bool × Nat × Nat) (w : World) (ha : NRep w (.agg #[.bool s1, .slice p1 k1 c1, .slice q1 l1 d1]) a) (hb : NRep w (.agg #[.bool sz1, .slice pz1 kz1 cz1, .slice qz1 lz1 dz1]) b) (h1 : large a.2.1 a.2.2 = false) (h2 : large b.2.1 b.2.2 = false) :
    Calls Tryz.prog 121 #[.agg #[.bool s1, .slice p1 k1 c1, .slice q1 l1 d1, .bool sz1, .slice pz1 kz1 cz1, .slice qz1 lz1 dz1, .bool false, .bool true]] w fun e w' => ∃ s2 p2 k2 c2 q2 l2 d2 sz2 pz2 kz2 cz2 qz2 lz2 dz2 x2 y2 e2, e = .returned (.agg #[.bool s2, .slice p2 k2 c2, .slice q2 l2 d2, .bool sz2, .slice pz2 kz2 cz2, .slice qz2 lz2 dz2, .bool x2, .bool y2, .bool e2]) ∧ Hid (JRep w' (.agg #[.bool s2, .slice p2 k2 c2, .slice q2 l2 d2, .bool sz2, .slice pz2 kz2 cz2, .slice qz2 lz2 dz2, .bool x2, .bool y2, .bool e2]) (jof (a, b, false, true))) ∧ Below w.heap.size w w' := by
  have HL := hid (fun (W : World) (hW : Below w.heap.size w W) => rOfF_any (.agg #[.bool s1, .slice p1 k1 c1, .slice q1 l1 d1]) a W (ha.below hW) h1)
  have HH := hid (fun (W : World) (hW : Below w.heap.size w W) => rOfF_any (.agg #[.bool sz1, .slice pz1 kz1 cz1, .slice qz1 lz1 dz1]) b W (hb.below hW) h2)
  have hbx := fr_bd h1
  have hby := fr_bd h2
  have HCm := hid (fun (W : World) (v1 v2 : Value) (q1 : QNorm W v1 (fr a)) (q2 : QNorm W v2 (fr b)) => rCmp_any v1 v2 (fr a) (fr b) 128 W q1 q2 (lt_W_B6 hbx.1 (by omega)) (lt_W_B6 hbx.2 (by omega)) (lt_W_B6 hby.1 (by omega)) (lt_W_B6 hby.2 (by omega)) (by omega) (frac_pos (den1_pos _)) (frac_pos (den1_pos _)))
  clear ha hb h1 h2 hbx hby
  obtain ⟨ra, hra⟩ : ∃ r, r = fr a := ⟨_, rfl⟩
  obtain ⟨rb, hrb⟩ : ∃ r, r = fr b := ⟨_, rfl⟩
  obtain ⟨rc, hrc⟩ : ∃ r, r = fcmp (fr a) (fr b) := ⟨_, rfl⟩
  have hj : jof (a, b, false, true) = if !false && !true && decide (0 < rc) then jnone else (if false then (false, 0, 0) else ra, if true then (false, 0, 0) else rb, false, true, false) := by
    rw [hra, hrb, hrc]; rfl
  rw [hj]
  rw [← hrc, ← hra, ← hrb] at HCm
  rw [← hra] at HL
  rw [← hrb] at HH
  clear hj hra hrb hrc
  obtain ⟨r, hr⟩ : ∃ r, r = (if !false && !true && decide (0 < rc) then jnone else (if false then (false, 0, 0) else ra, if true then (false, 0, 0) else rb, false, true, false)) := ⟨_, rfl⟩
  rw [← hr]
  have HX := hid hr
  clear hr
  go_enter Tryz.func121, Tryz.ntmps121
  go_wp2_with fail
  have HV := hid (pre3 w [.bool s1, .slice p1 k1 c1, .slice q1 l1 d1, .bool sz1, .slice pz1 kz1 cz1, .slice qz1 lz1 dz1, .bool false, .bool true] [.bool false, .slice none 0 0, .slice none 0 0, .bool false, .slice none 0 0, .slice none 0 0, .bool false, .bool false, .bool false] [.bool false, .slice none 0 0, .slice none 0 0, .bool false, .slice none 0 0, .slice none 0 0, .bool false, .bool false, .bool false] 26 69 69 ⟨trivial, trivial, trivial, trivial, trivial, trivial, trivial, trivial, trivial⟩ ⟨trivial, trivial, trivial, trivial, trivial, trivial, trivial, trivial, trivial, trivial⟩ ⟨trivial, trivial, trivial, trivial, trivial, trivial, trivial, trivial, trivial, trivial⟩)
  generalize ((w.alloc (.cells #[.bool s1, .slice p1 k1 c1, .slice q1 l1 d1, .bool sz1, .slice pz1 kz1 cz1, .slice qz1 lz1 dz1, .bool false, .bool true] 26)).alloc (.cells #[.bool false, .slice none 0 0, .slice none 0 0, .bool false, .slice none 0 0, .slice none 0 0, .bool false, .bool false, .bool false] 69)).alloc (.cells #[.bool false, .slice none 0 0, .slice none 0 0, .bool false, .slice none 0 0, .slice none 0 0, .bool false, .bool false, .bool false] 69) = W0 at *
  refine (HL.out _ HV.out.2.2.2).mono ?_
  rintro e w1 ⟨s3, p3, k3, c3, q3, l3, d3, rfl, hF, hB⟩
  have HK := hid (And.intro (HV.out.1.below hB) (And.intro (HV.out.2.1.below hB) (And.intro (HV.out.2.2.1.below hB) (HV.out.2.2.2.trans (hB.mono HV.out.2.2.2.size)))))
  clear hB
  obtain ⟨n0, n1, n2, n3, n4, n5, n6, n7, n8, n9, n10, n11, n12, n13, n14, n15, n16, n17⟩ := HK.out.2.2.1.cells9
  obtain ⟨m0, m1, m2, m3, m4, m5, m6, m7, _⟩ := HK.out.1.cells8
  go_upto_region 5 with fail
  have HI : Box (((w1.setCell ⟨w.heap.size + 1 + 1, 0, none⟩ (.bool s3)).setCell ⟨w.heap.size + 1 + 1, 1, none⟩ (.slice p3 k3 c3)).setCell ⟨w.heap.size + 1 + 1, 2, none⟩ (.slice q3 l3 d3)) (w.heap.size + 1 + 1) #[.bool s3, .slice p3 k3 c3, .slice q3 l3 d3, .bool false, .slice none 0 0, .slice none 0 0, .bool false, .bool false, .bool false] := ((HK.out.2.2.1.set 0 (.bool s3) trivial).set 1 (.slice p3 k3 c3) trivial).set 2 (.slice q3 l3 d3) trivial
  have HJ := hid (And.intro (show Box (((w1.setCell ⟨w.heap.size + 1 + 1, 0, none⟩ (.bool s3)).setCell ⟨w.heap.size + 1 + 1, 1, none⟩ (.slice p3 k3 c3)).setCell ⟨w.heap.size + 1 + 1, 2, none⟩ (.slice q3 l3 d3)) w.heap.size _ from Box.stores_other (k := 0) (l := [.bool s3, .slice p3 k3 c3, .slice q3 l3 d3]) HK.out.1 (by omega)) (And.intro (show Box (((w1.setCell ⟨w.heap.size + 1 + 1, 0, none⟩ (.bool s3)).setCell ⟨w.heap.size + 1 + 1, 1, none⟩ (.slice p3 k3 c3)).setCell ⟨w.heap.size + 1 + 1, 2, none⟩ (.slice q3 l3 d3)) (w.heap.size + 1) _ from Box.stores_other (k := 0) (l := [.bool s3, .slice p3 k3 c3, .slice q3 l3 d3]) HK.out.2.1 (by omega)) (And.intro HI (show Below w.heap.size w (((w1.setCell ⟨w.heap.size + 1 + 1, 0, none⟩ (.bool s3)).setCell ⟨w.heap.size + 1 + 1, 1, none⟩ (.slice p3 k3 c3)).setCell ⟨w.heap.size + 1 + 1, 2, none⟩ (.slice q3 l3 d3)) from Below.stores (k := 0) (l := [.bool s3, .slice p3 k3 c3, .slice q3 l3 d3]) HK.out.2.2.2 (by omega)))))
  have HS := hid (show QNorm (((w1.setCell ⟨w.heap.size + 1 + 1, 0, none⟩ (.bool s3)).setCell ⟨w.heap.size + 1 + 1, 1, none⟩ (.slice p3 k3 c3)).setCell ⟨w.heap.size + 1 + 1, 2, none⟩ (.slice q3 l3 d3)) (.agg #[.bool s3, .slice p3 k3 c3, .slice q3 l3 d3]) ra from QNorm.stores (k := 0) (l := [.bool s3, .slice p3 k3 c3, .slice q3 l3 d3]) hF.out HK.out.2.2.1 ⟨trivial, trivial, trivial, trivial⟩)
  clear HI
  generalize (((w1.setCell ⟨w.heap.size + 1 + 1, 0, none⟩ (.bool s3)).setCell ⟨w.heap.size + 1 + 1, 1, none⟩ (.slice p3 k3 c3)).setCell ⟨w.heap.size + 1 + 1, 2, none⟩ (.slice q3 l3 d3)) = W1 at *
  clear n0 n1 n2 n3 n4 n5 n6 n7 n8 n9 n10 n11 n12 n13 n14 n15 n16 n17 m0 m1 m2 m3 m4 m5 m6 m7
  obtain ⟨n0, n1, n2, n3, n4, n5, n6, n7, n8, n9, n10, n11, n12, n13, n14, n15, n16, n17⟩ := HJ.out.2.2.1.cells9
  obtain ⟨m0, m1, m2, m3, m4, m5, m6, m7, _⟩ := HJ.out.1.cells8
  go_upto_region 8 with fail
  have HI : Box (W1.setCell ⟨w.heap.size + 1 + 1, 7, none⟩ (.bool true)) (w.heap.size + 1 + 1) #[.bool s3, .slice p3 k3 c3, .slice q3 l3 d3, .bool false, .slice none 0 0, .slice none 0 0, .bool false, .bool true, .bool false] := HJ.out.2.2.1.set 7 (.bool true) trivial
  have HL2 := hid (And.intro (show Box (W1.setCell ⟨w.heap.size + 1 + 1, 7, none⟩ (.bool true)) w.heap.size _ from Box.stores_other (k := 7) (l := [.bool true]) HJ.out.1 (by omega)) (And.intro (show Box (W1.setCell ⟨w.heap.size + 1 + 1, 7, none⟩ (.bool true)) (w.heap.size + 1) _ from Box.stores_other (k := 7) (l := [.bool true]) HJ.out.2.1 (by omega)) (And.intro HI (show Below w.heap.size w (W1.setCell ⟨w.heap.size + 1 + 1, 7, none⟩ (.bool true)) from Below.stores (k := 7) (l := [.bool true]) HJ.out.2.2.2 (by omega)))))
  have HS2 := hid (show QNorm (W1.setCell ⟨w.heap.size + 1 + 1, 7, none⟩ (.bool true)) (.agg #[.bool s3, .slice p3 k3 c3, .slice q3 l3 d3]) ra from QNorm.stores (k := 7) (l := [.bool true]) HS.out HJ.out.2.2.1 ⟨trivial, trivial⟩)
  clear HI
  generalize (W1.setCell ⟨w.heap.size + 1 + 1, 7, none⟩ (.bool true)) = W2 at *
  clear n0 n1 n2 n3 n4 n5 n6 n7 n8 n9 n10 n11 n12 n13 n14 n15 n16 n17 m0 m1 m2 m3 m4 m5 m6 m7
  obtain ⟨a0, a1, a2, a3, a4, a5, a6, a7, _⟩ := HL2.out.1.cells8
  obtain ⟨u0, u1, u2, u3, u4, u5, u6, u7, u8, u9, u10, u11, u12, u13, u14, u15, u16, u17⟩ := HL2.out.2.1.cells9
  obtain ⟨v0, v1, v2, v3, v4, v5, v6, v7, v8, _⟩ := HL2.out.2.2.1.cells9
  go_wp2_with fail
  have hr1 : r = (ra, (false, 0, 0), false, true, false) := by rw [HX.out]; rfl
  exact jOf_ret rfl (HL2.out.2.1.stores [.bool s3, .slice p3 k3 c3, .slice q3 l3 d3, .bool false, .slice none 0 0, .slice none 0 0, .bool false, .bool true, .bool false] rfl ⟨trivial, trivial, trivial, trivial, trivial, trivial, trivial, trivial, trivial, trivial⟩) ⟨_, _, _, _, _, _, _, _, _, _, _, _, _, _, _, _, _, rfl, hid ⟨_, _, _, _, _, _, _, _, _, _, _, _, _, _, _, _, _, rfl, by rw [hr1]; exact QNorm.stores (k := 0) (l := [.bool s3, .slice p3 k3 c3, .slice q3 l3 d3, .bool false, .slice none 0 0, .slice none 0 0, .bool false, .bool true, .bool false]) HS2.out HL2.out.2.1 ⟨trivial, trivial, trivial, trivial, trivial, trivial, trivial, trivial, trivial, trivial⟩, by rw [hr1]; exact QNorm.zero _, by rw [hr1], by rw [hr1], by rw [hr1]⟩, Below.stores (k := 0) (l := [.bool s3, .slice p3 k3 c3, .slice q3 l3 d3, .bool false, .slice none 0 0, .slice none 0 0, .bool false, .bool true, .bool false]) HL2.out.2.2.2 (by omega)⟩

theorem jOf_any (s1 : Bool) (p1 : Option Addr) (k1 c1 : Nat) (q1 : Option Addr) (l1 d1 : Nat) (sz1 : Bool) (pz1 : Option Addr) (kz1 cz1 : Nat) (qz1 : Option Addr) (lz1 dz1 : Nat) (x1 : Bool) (y1 : Bool) (a b : Bool × Nat × Nat) (w : World) (ha : NRep w (.agg #[.bool s1, .slice p1 k1 c1, .slice q1 l1 d1]) a) (hb : NRep w (.agg #[.bool sz1, .slice pz1 kz1 cz1, .slice qz1 lz1 dz1]) b) (h1 : large a.2.1 a.2.2 = false) (h2 : large b.2.1 b.2.2 = false) :
    Calls Tryz.prog 121 #[.agg #[.bool s1, .slice p1 k1 c1, .slice q1 l1 d1, .bool sz1, .slice pz1 kz1 cz1, .slice qz1 lz1 dz1, .bool x1, .bool y1]] w fun e w' => ∃ s2 p2 k2 c2 q2 l2 d2 sz2 pz2 kz2 cz2 qz2 lz2 dz2 x2 y2 e2, e = .returned (.agg #[.bool s2, .slice p2 k2 c2, .slice q2 l2 d2, .bool sz2, .slice pz2 kz2 cz2, .slice qz2 lz2 dz2, .bool x2, .bool y2, .bool e2]) ∧ Hid (JRep w' (.agg #[.bool s2, .slice p2 k2 c2, .slice q2 l2 d2, .bool sz2, .slice pz2 kz2 cz2, .slice qz2 lz2 dz2, .bool x2, .bool y2, .bool e2]) (jof (a, b, x1, y1))) ∧ Below w.heap.size w w' := by
  cases x1 <;> cases y1
  · exact jOf_ff _ _ _ _ _ _ _ _ _ _ _ _ _ _ a b w ha hb h1 h2
  · exact jOf_ft _ _ _ _ _ _ _ _ _ _ _ _ _ _ a b w ha hb h1 h2
  · exact jOf_tf _ _ _ _ _ _ _ _ _ _ _ _ _ _ a b w ha hb h1 h2
  · exact jOf_tt _ _ _ _ _ _ _ _ _ _ _ _ _ _ a b w ha hb h1 h2
end Go.Proofs.YtgjjcmclikiojaaGreatDoor
