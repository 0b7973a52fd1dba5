/- Whether a number is in an interval: both sides agree. -/
import Derived.Test.YtpdpabpdejmdbaaGreatDoorHasT
import Derived.Test.YtpdpabpdejmdbaaGreatDoorHasQ
namespace Go.Proofs.YtpdpabpdejmdbaaGreatDoor
open Go.RowKit Dg

/-- Whether a number is in a set of the reference. -/
def jin (r : (Bool × Nat × Nat) × (Bool × Nat × Nat) × Bool × Bool × Bool) (t : Bool × Nat × Nat) : Bool :=
  !r.2.2.2.2 && (r.2.2.1 || decide (fcmp r.1 t ≤ 0)) && (r.2.2.2.1 || decide (fcmp t r.2.1 ≤ 0))

set_option maxHeartbeats 4000000 in
theorem jIn_any (s1 : Bool) (p1 : Option Addr) (k1 c1 : Nat) (q1 : Option Addr) (l1 d1 : Nat) (sz1 : Bool) (pz1 : Option Addr) (kz1 cz1 : Nat) (qz1 : Option Addr) (lz1 dz1 : Nat) (x1 : Bool) (y1 : Bool) (e1 : Bool) (s2 : Bool) (p2 : Option Addr) (k2 c2 : Nat) (q2 : Option Addr) (l2 d2 : Nat) (r : (Bool × Nat × Nat) × (Bool × Nat × Nat) × Bool × Bool × Bool) (t : Bool × Nat × Nat) (w : World) (h : JRep w (.agg #[.bool s1, .slice p1 k1 c1, .slice q1 l1 d1, .bool sz1, .slice pz1 kz1 cz1, .slice qz1 lz1 dz1, .bool x1, .bool y1, .bool e1]) r) (h' : QNorm w (.agg #[.bool s2, .slice p2 k2 c2, .slice q2 l2 d2]) t) (ht : QOk t)
    (hl : e1 = false → x1 = false → QOk r.1) (hh : e1 = false → y1 = false → QOk r.2.1) :
    Calls Tryz.prog 69 #[.agg #[.bool s1, .slice p1 k1 c1, .slice q1 l1 d1, .bool sz1, .slice pz1 kz1 cz1, .slice qz1 lz1 dz1, .bool x1, .bool y1, .bool e1], .agg #[.bool s2, .slice p2 k2 c2, .slice q2 l2 d2]] w fun e w' => e = .returned (.bool (jin r t)) ∧ Below w.heap.size w w' := by
  have hp := h.parts
  obtain ⟨qa1, qa2, ex, ey, ee⟩ := hp
  have hj : jin r t = (!e1 && (x1 || decide (fcmp r.1 t ≤ 0)) && (y1 || decide (fcmp t r.2.1 ≤ 0))) := by rw [ex, ey, ee]; rfl
  rw [hj]
  have HL := hid (fun (he : e1 = false) (hx : x1 = false) (W : World) (hW : Below w.heap.size w W) => rcmp_ok (.agg #[.bool s1, .slice p1 k1 c1, .slice q1 l1 d1]) (.agg #[.bool s2, .slice p2 k2 c2, .slice q2 l2 d2]) r.1 t W (qa1.below hW) (h'.below hW) (hl he hx) ht)
  have HH := hid (fun (he : e1 = false) (hy : y1 = false) (W : World) (hW : Below w.heap.size w W) => rcmp_ok (.agg #[.bool s2, .slice p2 k2 c2, .slice q2 l2 d2]) (.agg #[.bool sz1, .slice pz1 kz1 cz1, .slice qz1 lz1 dz1]) t r.2.1 W (h'.below hW) (qa2.below hW) ht (hh he hy))
  obtain ⟨cl, hcl⟩ : ∃ c, c = fcmp r.1 t := ⟨_, rfl⟩
  obtain ⟨ch, hch⟩ : ∃ c, c = fcmp t r.2.1 := ⟨_, rfl⟩
  rw [← hcl] at HL ⊢
  rw [← hch] at HH ⊢
  obtain ⟨res, hres⟩ : ∃ b, b = (!e1 && (x1 || decide (cl ≤ 0)) && (y1 || decide (ch ≤ 0))) := ⟨_, rfl⟩
  rw [← hres]
  have HX := hid hres
  clear h h' ht hl hh qa1 qa2 ex ey ee hj hcl hch hres
  cases e1
  case true =>
    have hr : res = false := by rw [HX.out]; rfl
    rw [hr]
    clear hr HX
    go_enter Tryz.func69, Tryz.ntmps69
    go_wp2_with fail
    go_ret
    exact ⟨rfl, below_alloc2 _ _ _⟩
  case false =>
    cases x1
    case false =>
      by_cases hl : cl ≤ 0
      · cases y1
        case false =>
          have hr : res = decide (ch ≤ 0) := by rw [HX.out, decide_eq_true hl]; rfl
          have HR := hid hr
          clear hr HX
          go_enter Tryz.func69, Tryz.ntmps69
          go_wp2_with fail
          have HV := hid (pre2 w [.bool s1, .slice p1 k1 c1, .slice q1 l1 d1, .bool sz1, .slice pz1 kz1 cz1, .slice qz1 lz1 dz1, .bool false, .bool false, .bool false] [.bool s2, .slice p2 k2 c2, .slice q2 l2 d2] 73 71 ⟨trivial, trivial, trivial, trivial, trivial, trivial, trivial, trivial, trivial, trivial⟩ ⟨trivial, trivial, trivial, trivial⟩)
          generalize (w.alloc (.cells #[.bool s1, .slice p1 k1 c1, .slice q1 l1 d1, .bool sz1, .slice pz1 kz1 cz1, .slice qz1 lz1 dz1, .bool false, .bool false, .bool false] 73)).alloc (.cells #[.bool s2, .slice p2 k2 c2, .slice q2 l2 d2] 71) = W0 at *
          refine (HL.out (by trivial) (by trivial) _ HV.out.2.2).mono ?_
          rintro e w1 ⟨rfl, hB1⟩
          have HE := hid (HV.out.2.2.trans (hB1.mono HV.out.2.2.size))
          obtain ⟨m0, m1, m2, m3, m4, m5, m6, m7, m8, _⟩ := (HV.out.1.below hB1).cells9
          obtain ⟨n0, n1, n2, _⟩ := (HV.out.2.1.below hB1).cells3
          clear hB1
          go_wp2_with fail
          refine (HH.out (by trivial) (by trivial) _ HE.out).mono ?_
          rintro e w2 ⟨rfl, hB2⟩
          have HE2 := hid (HE.out.trans (hB2.mono HE.out.size))
          clear hB2
          go_wp2_with fail
          go_ret
          exact ⟨by (rw [HR.out]; try rfl), HE2.out⟩
        case true =>
          have hr : res = true := by rw [HX.out, decide_eq_true hl]; rfl
          have HR := hid hr
          clear hr HX
          go_enter Tryz.func69, Tryz.ntmps69
          go_wp2_with fail
          have HV := hid (pre2 w [.bool s1, .slice p1 k1 c1, .slice q1 l1 d1, .bool sz1, .slice pz1 kz1 cz1, .slice qz1 lz1 dz1, .bool false, .bool true, .bool false] [.bool s2, .slice p2 k2 c2, .slice q2 l2 d2] 73 71 ⟨trivial, trivial, trivial, trivial, trivial, trivial, trivial, trivial, trivial, trivial⟩ ⟨trivial, trivial, trivial, trivial⟩)
          generalize (w.alloc (.cells #[.bool s1, .slice p1 k1 c1, .slice q1 l1 d1, .bool sz1, .slice pz1 kz1 cz1, .slice qz1 lz1 dz1, .bool false, .bool true, .bool false] 73)).alloc (.cells #[.bool s2, .slice p2 k2 c2, .slice q2 l2 d2] 71) = W0 at *
          refine (HL.out (by trivial) (by trivial) _ HV.out.2.2).mono ?_
          rintro e w1 ⟨rfl, hB1⟩
          have HE := hid (HV.out.2.2.trans (hB1.mono HV.out.2.2.size))
          obtain ⟨m0, m1, m2, m3, m4, m5, m6, m7, m8, _⟩ := (HV.out.1.below hB1).cells9
          obtain ⟨n0, n1, n2, _⟩ := (HV.out.2.1.below hB1).cells3
          clear hB1
          go_wp2_with fail
          go_ret
          exact ⟨by (rw [HR.out]; try rfl), HE.out⟩
      · have hr : res = false := by rw [HX.out, decide_eq_false hl]; rfl
        have HR := hid hr
        clear hr HX
        have hl' : decide (cl ≤ 0) = false := decide_eq_false hl
        go_enter Tryz.func69, Tryz.ntmps69
        go_wp2_with fail
        have HV := hid (pre2 w [.bool s1, .slice p1 k1 c1, .slice q1 l1 d1, .bool sz1, .slice pz1 kz1 cz1, .slice qz1 lz1 dz1, .bool false, .bool y1, .bool false] [.bool s2, .slice p2 k2 c2, .slice q2 l2 d2] 73 71 ⟨trivial, trivial, trivial, trivial, trivial, trivial, trivial, trivial, trivial, trivial⟩ ⟨trivial, trivial, trivial, trivial⟩)
        generalize (w.alloc (.cells #[.bool s1, .slice p1 k1 c1, .slice q1 l1 d1, .bool sz1, .slice pz1 kz1 cz1, .slice qz1 lz1 dz1, .bool false, .bool y1, .bool false] 73)).alloc (.cells #[.bool s2, .slice p2 k2 c2, .slice q2 l2 d2] 71) = W0 at *
        refine (HL.out (by trivial) (by trivial) _ HV.out.2.2).mono ?_
        rintro e w1 ⟨rfl, hB1⟩
        have HE := hid (HV.out.2.2.trans (hB1.mono HV.out.2.2.size))
        obtain ⟨m0, m1, m2, m3, m4, m5, m6, m7, m8, _⟩ := (HV.out.1.below hB1).cells9
        obtain ⟨n0, n1, n2, _⟩ := (HV.out.2.1.below hB1).cells3
        clear hB1
        go_wp2_with fail
        go_ret
        exact ⟨by (rw [HR.out]; try rfl), HE.out⟩
    case true =>
      cases y1
      case false =>
        have hr : res = decide (ch ≤ 0) := by rw [HX.out]; rfl
        have HR := hid hr
        go_enter Tryz.func69, Tryz.ntmps69
        go_wp2_with fail
        have HV := hid (pre2 w [.bool s1, .slice p1 k1 c1, .slice q1 l1 d1, .bool sz1, .slice pz1 kz1 cz1, .slice qz1 lz1 dz1, .bool true, .bool false, .bool false] [.bool s2, .slice p2 k2 c2, .slice q2 l2 d2] 73 71 ⟨trivial, trivial, trivial, trivial, trivial, trivial, trivial, trivial, trivial, trivial⟩ ⟨trivial, trivial, trivial, trivial⟩)
        generalize (w.alloc (.cells #[.bool s1, .slice p1 k1 c1, .slice q1 l1 d1, .bool sz1, .slice pz1 kz1 cz1, .slice qz1 lz1 dz1, .bool true, .bool false, .bool false] 73)).alloc (.cells #[.bool s2, .slice p2 k2 c2, .slice q2 l2 d2] 71) = W0 at *
        refine (HH.out (by trivial) (by trivial) _ HV.out.2.2).mono ?_
        rintro e w2 ⟨rfl, hB2⟩
        have HE2 := hid (HV.out.2.2.trans (hB2.mono HV.out.2.2.size))
        clear hB2
        go_wp2_with fail
        go_ret
        exact ⟨by (rw [HR.out]; try rfl), HE2.out⟩
      case true =>
        have hr : res = true := by rw [HX.out]; rfl
        have HR := hid hr
        clear hr HX
        rw [HR.out]
        go_enter Tryz.func69, Tryz.ntmps69
        go_wp2_with fail
        go_ret
        exact ⟨rfl, below_alloc2 _ _ _⟩
theorem fcmp_trans {a b c : Bool × Nat × Nat} (ha : 0 < a.2.2) (hb : 0 < b.2.2) (hc : 0 < c.2.2) (h1 : fcmp a b ≤ 0) (h2 : fcmp b c ≤ 0) : fcmp a c ≤ 0 := by
  rw [fcmp_nonpos] at *
  generalize sv a.1 a.2.1 = x at *
  generalize sv b.1 b.2.1 = y at *
  generalize sv c.1 c.2.1 = z at *
  have ha' : (0 : Int) < a.2.2 := by omega
  have hb' : (0 : Int) < b.2.2 := by omega
  have hc' : (0 : Int) < c.2.2 := by omega
  generalize (a.2.2 : Int) = p at *
  generalize (b.2.2 : Int) = q at *
  generalize (c.2.2 : Int) = r at *
  refine Int.le_of_mul_le_mul_left (a := q) ?_ hb'
  have e1 := Int.mul_le_mul_of_nonneg_right h1 (Int.le_of_lt hc')
  have e2 := Int.mul_le_mul_of_nonneg_right h2 (Int.le_of_lt ha')
  calc q * (x * r) = x * q * r := by rw [Int.mul_comm q, Int.mul_right_comm]
    _ ≤ y * p * r := e1
    _ = y * r * p := by rw [Int.mul_right_comm]
    _ ≤ z * q * p := e2
    _ = q * (z * p) := by rw [Int.mul_comm q, Int.mul_right_comm]

theorem shas_jin (a b t : Bool × Nat × Nat) (x y : Bool) : shas (srd (a, b, x, y)) (0, fr t) = jin (jof (a, b, x, y)) (fr t) := by
  have e1 : ecmp (rdE x (-1) a) (0, fr t) = if x then -1 else fcmp (fr a) (fr t) := by
    cases x <;> rfl
  have e2 : ecmp (0, fr t) (rdE y 1 b) = if y then -1 else fcmp (fr t) (fr b) := by
    cases y <;> rfl
  show (decide (ecmp (rdE x (-1) a) (0, fr t) ≤ 0) && decide (ecmp (0, fr t) (rdE y 1 b) ≤ 0)) = _
  rw [e1, e2]
  unfold jof
  cases x <;> cases y
  · by_cases hc : 0 < fcmp (fr a) (fr b)
    · rw [show (!false && !false && decide (0 < fcmp (fr a) (fr b))) = true by rw [decide_eq_true hc]; rfl]
      show (decide (fcmp (fr a) (fr t) ≤ 0) && decide (fcmp (fr t) (fr b) ≤ 0)) = false
      by_cases h1 : fcmp (fr a) (fr t) ≤ 0
      · by_cases h2 : fcmp (fr t) (fr b) ≤ 0
        · have := fcmp_trans (IsFr.fr a).pos (IsFr.fr t).pos (IsFr.fr b).pos h1 h2
          omega
        · rw [decide_eq_false h2, Bool.and_false]
      · rw [decide_eq_false h1, Bool.false_and]
    · rw [show (!false && !false && decide (0 < fcmp (fr a) (fr b))) = false by rw [decide_eq_false hc]; rfl]
      rfl
  · simp [jin]
  · simp [jin]
  · simp [jin]

set_option maxHeartbeats 4000000 in
set_option maxRecDepth 100000 in
theorem jHas_any (s1 : Bool) (p1 : Option Addr) (k1 c1 : Nat) (q1 : Option Addr) (l1 d1 : Nat) (sz1 : Bool) (pz1 : Option Addr) (kz1 cz1 : Nat) (qz1 : Option Addr) (lz1 dz1 : Nat) (x1 : Bool) (y1 : Bool) (s2 : Bool) (p2 : Option Addr) (k2 c2 : Nat) (q2 : Option Addr) (l2 d2 : Nat) (a b t : Bool × Nat × Nat) (w : World) (ha : NRep w (.agg #[.bool s1, .slice p1 k1 c1, .slice q1 l1 d1]) a) (hb : NRep w (.agg #[.bool sz1, .slice pz1 kz1 cz1, .slice qz1 lz1 dz1]) b) (hx : NRep w (.agg #[.bool s2, .slice p2 k2 c2, .slice q2 l2 d2]) t) :
    Calls Tryz.prog 16 #[.agg #[.bool s1, .slice p1 k1 c1, .slice q1 l1 d1, .bool sz1, .slice pz1 kz1 cz1, .slice qz1 lz1 dz1, .bool x1, .bool y1], .agg #[.bool s2, .slice p2 k2 c2, .slice q2 l2 d2]] w fun e w' => e = .returned (.tuple #[.bool (hval (a, b, x1, y1) t), .int .i64 (hcode (a, b, x1, y1) t)]) ∧ Below w.heap.size w w' := by
  obtain ⟨r, hr⟩ : ∃ r, r = hval (a, b, x1, y1) t := ⟨_, rfl⟩
  obtain ⟨c, hc⟩ : ∃ r, r = hcode (a, b, x1, y1) t := ⟨_, rfl⟩
  rw [← hr, ← hc]
  cases hL : (large a.2.1 a.2.2 || large b.2.1 b.2.2)
  case true =>
    have hla : ilarge (a, b, x1, y1) = true := hL
    have er : r = false := by rw [hr]; unfold hval; rw [hla]; rfl
    have ec : c = 1 := by rw [hc]; unfold hcode; rw [hla]; rfl
    rw [er, ec]
    have HO := hid (fun (W : World) (hW : Below w.heap.size w W) => jOne_large s1 p1 k1 c1 q1 l1 d1 sz1 pz1 kz1 cz1 qz1 lz1 dz1 x1 y1 a b 0 W (ha.below hW) (hb.below hW) hla)
    clear ha hb hx hr hc hL hla er ec
    go_enter Tryz.func16, Tryz.ntmps16
    go_wp2_with fail
    have HV := hid (pre2 w [.bool s1, .slice p1 k1 c1, .slice q1 l1 d1, .bool sz1, .slice pz1 kz1 cz1, .slice qz1 lz1 dz1, .bool x1, .bool y1] [.bool s2, .slice p2 k2 c2, .slice q2 l2 d2] 26 24 ⟨trivial, trivial, trivial, trivial, trivial, trivial, trivial, trivial, trivial⟩ ⟨trivial, trivial, trivial, trivial⟩)
    generalize (w.alloc (.cells #[.bool s1, .slice p1 k1 c1, .slice q1 l1 d1, .bool sz1, .slice pz1 kz1 cz1, .slice qz1 lz1 dz1, .bool x1, .bool y1] 26)).alloc (.cells #[.bool s2, .slice p2 k2 c2, .slice q2 l2 d2] 24) = W0 at *
    refine (HO.out _ HV.out.2.2).mono ?_
    rintro e w1 ⟨rfl, hB1⟩
    have HE := hid (HV.out.2.2.trans (hB1.mono HV.out.2.2.size))
    clear hB1
    go_wp2_with fail
    go_ret2
    exact ⟨rfl, HE.out.alloc HE.out.size _⟩
  case false =>
    have hla : ilarge (a, b, x1, y1) = false := hL
    have hL2 := hL
    rw [Bool.or_eq_false_iff] at hL
    obtain ⟨h1, h2⟩ := hL
    have HO := hid (fun (W : World) (hW : Below w.heap.size w W) => jOne_ok s1 p1 k1 c1 q1 l1 d1 sz1 pz1 kz1 cz1 qz1 lz1 dz1 x1 y1 a b 0 W (ha.below hW) (hb.below hW) h1 h2 (by omega) (by omega))
    have HLx := hid (fun (W : World) (hW : Below w.heap.size w W) => Large_any (.agg #[.bool s2, .slice p2 k2 c2, .slice q2 l2 d2]) t W (hx.below hW))
    cases h3 : large t.2.1 t.2.2
    case true =>
      rw [h3] at HLx
      have er : r = false := by rw [hr]; unfold hval; rw [hla, h3]; rfl
      have ec : c = 1 := by rw [hc]; unfold hcode; rw [hla, h3]; rfl
      rw [er, ec]
      clear ha hb hx hr hc hL2 hla er ec h1 h2 h3
      go_enter Tryz.func16, Tryz.ntmps16
      go_wp2_with fail
      have HV := hid (pre2 w [.bool s1, .slice p1 k1 c1, .slice q1 l1 d1, .bool sz1, .slice pz1 kz1 cz1, .slice qz1 lz1 dz1, .bool x1, .bool y1] [.bool s2, .slice p2 k2 c2, .slice q2 l2 d2] 26 24 ⟨trivial, trivial, trivial, trivial, trivial, trivial, trivial, trivial, trivial⟩ ⟨trivial, trivial, trivial, trivial⟩)
      generalize (w.alloc (.cells #[.bool s1, .slice p1 k1 c1, .slice q1 l1 d1, .bool sz1, .slice pz1 kz1 cz1, .slice qz1 lz1 dz1, .bool x1, .bool y1] 26)).alloc (.cells #[.bool s2, .slice p2 k2 c2, .slice q2 l2 d2] 24) = W0 at *
      refine (HO.out _ HV.out.2.2).mono ?_
      rintro e w1 ⟨s3, p3, k3, c3, q3, l3, d3, sz3, pz3, kz3, cz3, qz3, lz3, dz3, x3, y3, e3, rfl, _, hB1⟩
      have HE := hid (And.intro (HV.out.2.1.below hB1) (HV.out.2.2.trans (hB1.mono HV.out.2.2.size)))
      clear hB1
      go_upto_region 2 with fail
      have HX := hid (pre1 w1 [.bool s3, .slice p3 k3 c3, .slice q3 l3 d3, .bool sz3, .slice pz3 kz3 cz3, .slice qz3 lz3 dz3, .bool x3, .bool y3, .bool e3] 73 ⟨trivial, trivial, trivial, trivial, trivial, trivial, trivial, trivial, trivial, trivial⟩)
      generalize w1.alloc (.cells #[.bool s3, .slice p3 k3 c3, .slice q3 l3 d3, .bool sz3, .slice pz3 kz3 cz3, .slice qz3 lz3 dz3, .bool x3, .bool y3, .bool e3] 73) = W1 at *
      obtain ⟨n0, n1, n2, _⟩ := (HE.out.1.below HX.out.2).cells3
      go_wp2_with fail
      refine (HLx.out _ (HE.out.2.trans (HX.out.2.mono HE.out.2.size))).mono ?_
      rintro e w2 ⟨rfl, hB2⟩
      have HE2 := hid ((HE.out.2.trans (HX.out.2.mono HE.out.2.size)).trans (hB2.mono (Nat.le_trans HE.out.2.size HX.out.2.size)))
      clear hB2
      go_wp2_with fail
      go_ret2
      exact ⟨rfl, HE2.out⟩
    case false =>
      rw [h3] at HLx
      have er : r = jin (jof (a, b, x1, y1)) (fr t) := by rw [hr, ← shas_jin]; unfold hval; rw [hla, h3]; rfl
      have ec : c = 0 := by rw [hc]; unfold hcode; rw [hla, h3]; rfl
      rw [ec]
      have HQt : Hid (QOk (fr t)) := hid (qok_fr h3)
      have HOt := hid (fun (W : World) (hW : Below w.heap.size w W) => rOfF_any (.agg #[.bool s2, .slice p2 k2 c2, .slice q2 l2 d2]) t W (hx.below hW) h3)
      have HIn : Hid (∀ (W : World) (s3 : Bool) (p3 : Option Addr) (k3 c3 : Nat) (q3 : Option Addr) (l3 d3 : Nat) (sz3 : Bool) (pz3 : Option Addr) (kz3 cz3 : Nat) (qz3 : Option Addr) (lz3 dz3 : Nat) (x3 : Bool) (y3 : Bool) (e3 : Bool) (s4 : Bool) (p4 : Option Addr) (k4 c4 : Nat) (q4 : Option Addr) (l4 d4 : Nat), JRep W (.agg #[.bool s3, .slice p3 k3 c3, .slice q3 l3 d3, .bool sz3, .slice pz3 kz3 cz3, .slice qz3 lz3 dz3, .bool x3, .bool y3, .bool e3]) (jof (a, b, x1, y1)) → QNorm W (.agg #[.bool s4, .slice p4 k4 c4, .slice q4 l4 d4]) (fr t) → Calls Tryz.prog 69 #[.agg #[.bool s3, .slice p3 k3 c3, .slice q3 l3 d3, .bool sz3, .slice pz3 kz3 cz3, .slice qz3 lz3 dz3, .bool x3, .bool y3, .bool e3], .agg #[.bool s4, .slice p4 k4 c4, .slice q4 l4 d4]] W fun e w' => e = .returned (.bool r) ∧ Below W.heap.size W w') := by
        refine hid fun W s3 p3 k3 c3 q3 l3 d3 sz3 pz3 kz3 cz3 qz3 lz3 dz3 x3 y3 e3 s4 p4 k4 c4 q4 l4 d4 hJ hq => ?_
        rw [er]
        have hp := hJ.parts
        have hq1 : QOk (fr a) := qok_fr h1
        have hq2 : QOk (fr b) := qok_fr h2
        have key : (jof (a, b, x1, y1)).2.2.2.2 = false → ((jof (a, b, x1, y1)).2.2.1 = false → QOk (jof (a, b, x1, y1)).1) ∧ ((jof (a, b, x1, y1)).2.2.2.1 = false → QOk (jof (a, b, x1, y1)).2.1) := by
          unfold jof
          split
          · intro h; exact absurd h (by decide)
          · intro _
            refine ⟨fun h => ?_, fun h => ?_⟩
            · have h' : x1 = false := h
              subst h'
              exact hq1
            · have h' : y1 = false := h
              subst h'
              exact hq2
        exact jIn_any s3 p3 k3 c3 q3 l3 d3 sz3 pz3 kz3 cz3 qz3 lz3 dz3 x3 y3 e3 s4 p4 k4 c4 q4 l4 d4 _ (fr t) W hJ hq HQt.out (fun he hx => (key (by rw [← hp.2.2.2.2]; exact he)).1 (by rw [← hp.2.2.1]; exact hx)) (fun he hy => (key (by rw [← hp.2.2.2.2]; exact he)).2 (by rw [← hp.2.2.2.1]; exact hy))
      obtain ⟨jr, hjr⟩ : ∃ j, j = jof (a, b, x1, y1) := ⟨_, rfl⟩
      obtain ⟨tr, htr⟩ : ∃ j, j = fr t := ⟨_, rfl⟩
      rw [← hjr] at HO HIn
      rw [← htr] at HIn HOt
      clear ha hb hx hr hc hL2 hla er ec h1 h2 h3 HQt hjr htr
      go_enter Tryz.func16, Tryz.ntmps16
      go_wp2_with fail
      have HV := hid (pre2 w [.bool s1, .slice p1 k1 c1, .slice q1 l1 d1, .bool sz1, .slice pz1 kz1 cz1, .slice qz1 lz1 dz1, .bool x1, .bool y1] [.bool s2, .slice p2 k2 c2, .slice q2 l2 d2] 26 24 ⟨trivial, trivial, trivial, trivial, trivial, trivial, trivial, trivial, trivial⟩ ⟨trivial, trivial, trivial, trivial⟩)
      generalize (w.alloc (.cells #[.bool s1, .slice p1 k1 c1, .slice q1 l1 d1, .bool sz1, .slice pz1 kz1 cz1, .slice qz1 lz1 dz1, .bool x1, .bool y1] 26)).alloc (.cells #[.bool s2, .slice p2 k2 c2, .slice q2 l2 d2] 24) = W0 at *
      refine (HO.out _ HV.out.2.2).mono ?_
      rintro e w1 ⟨s3, p3, k3, c3, q3, l3, d3, sz3, pz3, kz3, cz3, qz3, lz3, dz3, x3, y3, e3, rfl, hJ, hB1⟩
      have HE := hid (And.intro (HV.out.2.1.below hB1) (HV.out.2.2.trans (hB1.mono HV.out.2.2.size)))
      clear hB1
      go_upto_region 2 with fail
      have HX := hid (pre1 w1 [.bool s3, .slice p3 k3 c3, .slice q3 l3 d3, .bool sz3, .slice pz3 kz3 cz3, .slice qz3 lz3 dz3, .bool x3, .bool y3, .bool e3] 73 ⟨trivial, trivial, trivial, trivial, trivial, trivial, trivial, trivial, trivial, trivial⟩)
      have HJ := hid (hJ.out.below HX.out.2)
      clear hJ
      generalize w1.alloc (.cells #[.bool s3, .slice p3 k3 c3, .slice q3 l3 d3, .bool sz3, .slice pz3 kz3 cz3, .slice qz3 lz3 dz3, .bool x3, .bool y3, .bool e3] 73) = W1 at *
      obtain ⟨n0, n1, n2, _⟩ := (HE.out.1.below HX.out.2).cells3
      have hlt : w.heap.size + 1 < w1.heap.size := HE.out.1.lt
      go_wp2_with fail
      refine (HLx.out _ (HE.out.2.trans (HX.out.2.mono HE.out.2.size))).mono ?_
      rintro e w2 ⟨rfl, hB2⟩
      have HE2 := hid ((HE.out.2.trans (HX.out.2.mono HE.out.2.size)).trans (hB2.mono (Nat.le_trans HE.out.2.size HX.out.2.size)))
      have HJ2 := hid (HJ.out.below hB2)
      have HQ := hid (QQ.i2 (cs := [.bool s3, .slice p3 k3 c3, .slice q3 l3 d3, .bool sz3, .slice pz3 kz3 cz3, .slice qz3 lz3 dz3, .bool x3, .bool y3, .bool e3]) (cs' := [.bool s2, .slice p2 k2 c2, .slice q2 l2 d2]) (HX.out.1.below hB2) ((HE.out.1.below HX.out.2).below hB2) HE2.out)
      clear hB2 n0 n1 n2 HJ
      go_upto_region 4 with fail
      have HS : Hid (∀ w', QQ w [(w1.heap.size, [.bool s3, .slice p3 k3 c3, .slice q3 l3 d3, .bool sz3, .slice pz3 kz3 cz3, .slice qz3 lz3 dz3, .bool x3, .bool y3, .bool e3]), (w.heap.size + 1, [.bool s2, .slice p2 k2 c2, .slice q2 l2 d2])] w' → (w'.cell? ⟨w1.heap.size, 0, none⟩ = some (.bool s3) ∧ w'.cell? ⟨w1.heap.size, 1, none⟩ = some (.slice p3 k3 c3) ∧ w'.cell? ⟨w1.heap.size, 2, none⟩ = some (.slice q3 l3 d3) ∧ w'.cell? ⟨w1.heap.size, 3, none⟩ = some (.bool sz3) ∧ w'.cell? ⟨w1.heap.size, 4, none⟩ = some (.slice pz3 kz3 cz3) ∧ w'.cell? ⟨w1.heap.size, 5, none⟩ = some (.slice qz3 lz3 dz3) ∧ w'.cell? ⟨w1.heap.size, 6, none⟩ = some (.bool x3) ∧ w'.cell? ⟨w1.heap.size, 7, none⟩ = some (.bool y3) ∧ w'.cell? ⟨w1.heap.size, 8, none⟩ = some (.bool e3) ∧ w'.cell? ⟨w.heap.size + 1, 0, none⟩ = some (.bool s2) ∧ w'.cell? ⟨w.heap.size + 1, 1, none⟩ = some (.slice p2 k2 c2) ∧ w'.cell? ⟨w.heap.size + 1, 2, none⟩ = some (.slice q2 l2 d2) ∧ Hid (QQ w [(w1.heap.size, [.bool s3, .slice p3 k3 c3, .slice q3 l3 d3, .bool sz3, .slice pz3 kz3 cz3, .slice qz3 lz3 dz3, .bool x3, .bool y3, .bool e3]), (w.heap.size + 1, [.bool s2, .slice p2 k2 c2, .slice q2 l2 d2])] w'))) :=
        hid fun w' hb => ⟨(hb.b1.cells9).1, (hb.b1.cells9).2.1, (hb.b1.cells9).2.2.1, (hb.b1.cells9).2.2.2.1, (hb.b1.cells9).2.2.2.2.1, (hb.b1.cells9).2.2.2.2.2.1, (hb.b1.cells9).2.2.2.2.2.2.1, (hb.b1.cells9).2.2.2.2.2.2.2.1, (hb.b1.cells9).2.2.2.2.2.2.2.2.1, (hb.b2.cells3).1, (hb.b2.cells3).2.1, (hb.b2.cells3).2.2.1, hid hb⟩
      go_region_held3 (fun w' => w'.cell? ⟨w1.heap.size, 0, none⟩ = some (.bool s3) ∧ w'.cell? ⟨w1.heap.size, 1, none⟩ = some (.slice p3 k3 c3) ∧ w'.cell? ⟨w1.heap.size, 2, none⟩ = some (.slice q3 l3 d3) ∧ w'.cell? ⟨w1.heap.size, 3, none⟩ = some (.bool sz3) ∧ w'.cell? ⟨w1.heap.size, 4, none⟩ = some (.slice pz3 kz3 cz3) ∧ w'.cell? ⟨w1.heap.size, 5, none⟩ = some (.slice qz3 lz3 dz3) ∧ w'.cell? ⟨w1.heap.size, 6, none⟩ = some (.bool x3) ∧ w'.cell? ⟨w1.heap.size, 7, none⟩ = some (.bool y3) ∧ w'.cell? ⟨w1.heap.size, 8, none⟩ = some (.bool e3) ∧ w'.cell? ⟨w.heap.size + 1, 0, none⟩ = some (.bool s2) ∧ w'.cell? ⟨w.heap.size + 1, 1, none⟩ = some (.slice p2 k2 c2) ∧ w'.cell? ⟨w.heap.size + 1, 2, none⟩ = some (.slice q2 l2 d2) ∧ Hid (QQ w [(w1.heap.size, [.bool s3, .slice p3 k3 c3, .slice q3 l3 d3, .bool sz3, .slice pz3 kz3 cz3, .slice qz3 lz3 dz3, .bool x3, .bool y3, .bool e3]), (w.heap.size + 1, [.bool s2, .slice p2 k2 c2, .slice q2 l2 d2])] w'))
        (first | (refine HS.out _ ?_; first | (with_reducible exact HQ.out.drew) | (with_reducible assumption)))
        (first
          | (go_at_call 70; refine (HOt.out _ HQ.out.drew.bel).mono ?_; rintro e wa ⟨s4, p4, k4, c4, q4, l4, d4, rfl, hF, hB3⟩; have hQ1 := HQ.out.drew.call hB3; have hJ3 := (HJ2.out.below (Below.refl _ _).drew).below hB3)
          | (go_at_call 69; refine (HIn.out _ s3 p3 k3 c3 q3 l3 d3 sz3 pz3 kz3 cz3 qz3 lz3 dz3 x3 y3 e3 s4 p4 k4 c4 q4 l4 d4 hJ3 hF.out).mono ?_; rintro e wb ⟨rfl, hB4⟩; have hQ2 := hQ1.call hB4))
      all_goals
        have HE5 := hid hQ2.bel
        clear hQ1 hQ2 hB3 hB4 hF hJ3
        go_wp2_with fail
        go_ret2
        exact ⟨rfl, HE5.out⟩
end Go.Proofs.YtpdpabpdejmdbaaGreatDoor
