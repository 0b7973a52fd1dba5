/- The law IntervalGuess. -/
import Derived.Test.YtimjoejkjgklaaaGreatDoorCanE
import Derived.Test.YtimjoejkjgklaaaGreatDoorHasU
import Derived.Test.YtimjoejkjgklaaaGreatDoorAwake
set_option maxHeartbeats 4000000
set_option maxRecDepth 100000
namespace Go.Proofs.YtimjoejkjgklaaaGreatDoor
open Go.RowKit Dg
theorem lawHas_any (s1 : Bool) (p1 : Option Addr) (k1 c1 : Nat) (q1 : Option Addr) (l1 d1 : Nat) (sz1 : Bool) (pz1 : Option Addr) (kz1 cz1 : Nat) (qz1 : Option Addr) (lz1 dz1 : Nat) (x1 : Bool) (y1 : Bool) (s2 : Bool) (p2 : Option Addr) (k2 c2 : Nat) (q2 : Option Addr) (l2 d2 : Nat) (a b t : Bool × Nat × Nat) (w : World) (ha : NRep w (.agg #[.bool s1, .slice p1 k1 c1, .slice q1 l1 d1]) a) (hb : NRep w (.agg #[.bool sz1, .slice pz1 kz1 cz1, .slice qz1 lz1 dz1]) b) (hx : NRep w (.agg #[.bool s2, .slice p2 k2 c2, .slice q2 l2 d2]) t) (ht : TabOk w) :
    Calls Tryz.prog 39 #[.agg #[.bool s1, .slice p1 k1 c1, .slice q1 l1 d1, .bool sz1, .slice pz1 kz1 cz1, .slice qz1 lz1 dz1, .bool x1, .bool y1], .agg #[.bool s2, .slice p2 k2 c2, .slice q2 l2 d2]] w fun e w' => e = .returned (.bool (hval (a, b, x1, y1) t)) ∧ Below w.heap.size w w' := by
  have HC := hid (fun (W : World) (hW : Below w.heap.size w W) => iHas_any s1 p1 k1 c1 q1 l1 d1 sz1 pz1 kz1 cz1 qz1 lz1 dz1 x1 y1 s2 p2 k2 c2 q2 l2 d2 a b t W (ha.below hW) (hb.below hW) (hx.below hW) (ht.below hW))
  have hz : hcode (a, b, x1, y1) t = 0 ∨ (hcode (a, b, x1, y1) t = 1 ∧ hval (a, b, x1, y1) t = false) := by
    unfold hcode hval
    cases ilarge (a, b, x1, y1) || large t.2.1 t.2.2
    · exact .inl rfl
    · exact .inr ⟨rfl, rfl⟩
  obtain ⟨r, hr⟩ : ∃ r, r = hval (a, b, x1, y1) t := ⟨_, rfl⟩
  obtain ⟨c, hc⟩ : ∃ r, r = hcode (a, b, x1, y1) t := ⟨_, rfl⟩
  rw [← hr, ← hc] at HC hz
  rw [← hr]
  clear ha hb hx ht hr hc
  rcases hz with hz | ⟨hz, hv⟩
  · subst hz
    cases r
    all_goals
      go_enter Tryz.func39, Tryz.ntmps39
      go_wp2_with fail
      have HV := hid (pre2 w [.bool s1, .slice p1 k1 c1, .slice q1 l1 d1, .bool sz1, .slice pz1 kz1 cz1, .slice qz1 lz1 dz1, .bool x1, .bool y1] [.bool s2, .slice p2 k2 c2, .slice q2 l2 d2] 26 24 nd8 nd3)
      generalize (w.alloc (.cells #[.bool s1, .slice p1 k1 c1, .slice q1 l1 d1, .bool sz1, .slice pz1 kz1 cz1, .slice qz1 lz1 dz1, .bool x1, .bool y1] 26)).alloc (.cells #[.bool s2, .slice p2 k2 c2, .slice q2 l2 d2] 24) = W0 at *
      refine (HC.out _ HV.out.2.2).mono ?_
      rintro e w1 ⟨rfl, hB1⟩
      have HE := hid (HV.out.2.2.trans (hB1.mono HV.out.2.2.size))
      clear hB1
      go_wp2_with fail
      go_ret
      exact ⟨rfl, HE.out⟩
  · subst hz hv
    go_enter Tryz.func39, Tryz.ntmps39
    go_wp2_with fail
    have HV := hid (pre2 w [.bool s1, .slice p1 k1 c1, .slice q1 l1 d1, .bool sz1, .slice pz1 kz1 cz1, .slice qz1 lz1 dz1, .bool x1, .bool y1] [.bool s2, .slice p2 k2 c2, .slice q2 l2 d2] 26 24 nd8 nd3)
    generalize (w.alloc (.cells #[.bool s1, .slice p1 k1 c1, .slice q1 l1 d1, .bool sz1, .slice pz1 kz1 cz1, .slice qz1 lz1 dz1, .bool x1, .bool y1] 26)).alloc (.cells #[.bool s2, .slice p2 k2 c2, .slice q2 l2 d2] 24) = W0 at *
    refine (HC.out _ HV.out.2.2).mono ?_
    rintro e w1 ⟨rfl, hB1⟩
    have HE := hid (HV.out.2.2.trans (hB1.mono HV.out.2.2.size))
    clear hB1
    go_wp2_with fail
    go_ret
    exact ⟨rfl, HE.out⟩
/-- The sign of a set is the sign of its numbers. -/
theorem guess {a b t : Bool × Nat × Nat} {x y : Bool} (h1 : large a.2.1 a.2.2 = false) (h2 : large b.2.1 b.2.2 = false) (h3 : large t.2.1 t.2.2 = false) (h : shas (srd (a, b, x, y)) (0, fr t) = true) :
    (ssgn (srd (a, b, x, y)) = 2 ∧ sgt t = 1) ∨ (ssgn (srd (a, b, x, y)) = 1 ∧ 0 ≤ sgt t) ∨ (ssgn (srd (a, b, x, y)) = 0 ∧ sgt t = 0) ∨ (ssgn (srd (a, b, x, y)) = -1 ∧ sgt t ≤ 0) ∨ (ssgn (srd (a, b, x, y)) = -2 ∧ sgt t = -1) ∨ ssgn (srd (a, b, x, y)) = 3 := by
  have ev : sgt t = sgn (fr t).1 (fr t).2.1 := by unfold sgt; rw [h3]; rfl
  rw [ev]
  have fa : IsFr (fr a) := (QFit.of h1).1
  have fb : IsFr (fr b) := (QFit.of h2).1
  have ft : IsFr (fr t) := (QFit.of h3).1
  have hv := sgn_three (fr t).1 (fr t).2.1
  unfold shas at h
  rw [Bool.and_eq_true, decide_eq_true_eq, decide_eq_true_eq] at h
  -- the ends
  have lo : (srd (a, b, x, y)).1 = rdE x (-1) a := rfl
  have hi : (srd (a, b, x, y)).2.1 = rdE y 1 b := rfl
  have sl : esgn (srd (a, b, x, y)).1 ≤ sgn (fr t).1 (fr t).2.1 ∧ (x = true → esgn (srd (a, b, x, y)).1 = -1) := by
    cases x
    · refine ⟨?_, fun hq => Bool.noConfusion hq⟩
      have hl : ecmp (0, fr a) (0, fr t) ≤ 0 := h.1
      have e0 : ecmp (0, fr a) (0, fr t) = fcmp (fr a) (fr t) := by unfold ecmp; simp
      rw [e0] at hl
      show sgn (fr a).1 (fr a).2.1 ≤ _
      exact sgn_mono fa ft hl
    · refine ⟨?_, fun _ => rfl⟩
      show (-1 : Int) ≤ _
      omega
  have sh : sgn (fr t).1 (fr t).2.1 ≤ esgn (srd (a, b, x, y)).2.1 ∧ (y = true → esgn (srd (a, b, x, y)).2.1 = 1) := by
    cases y
    · refine ⟨?_, fun hq => Bool.noConfusion hq⟩
      have hl : ecmp (0, fr t) (0, fr b) ≤ 0 := h.2
      have e0 : ecmp (0, fr t) (0, fr b) = fcmp (fr t) (fr b) := by unfold ecmp; simp
      rw [e0] at hl
      show _ ≤ sgn (fr b).1 (fr b).2.1
      exact sgn_mono ft fb hl
    · refine ⟨?_, fun _ => rfl⟩
      show _ ≤ (1 : Int)
      omega
  have hne : (srd (a, b, x, y)).2.2 = false := by
    cases he : (srd (a, b, x, y)).2.2
    · rfl
    · exfalso
      have he' : decide (0 < ecmp (rdE x (-1) a) (rdE y 1 b)) = true := he
      rw [decide_eq_true_eq] at he'
      have hl := h.1
      have hh := h.2
      rw [lo] at hl
      rw [hi] at hh
      cases x <;> cases y
      · have e1 : ecmp (rdE false (-1) a) (0, fr t) = fcmp (fr a) (fr t) := by show ecmp (0, fr a) (0, fr t) = _; unfold ecmp; simp
        have e2 : ecmp (0, fr t) (rdE false 1 b) = fcmp (fr t) (fr b) := by show ecmp (0, fr t) (0, fr b) = _; unfold ecmp; simp
        have e3 : ecmp (rdE false (-1) a) (rdE false 1 b) = fcmp (fr a) (fr b) := by show ecmp (0, fr a) (0, fr b) = _; unfold ecmp; simp
        rw [e1] at hl
        rw [e2] at hh
        rw [e3] at he'
        have := fcmp_trans fa.pos ft.pos fb.pos hl hh
        omega
      · have e3 : ecmp (rdE false (-1) a) (rdE true 1 b) = -1 := by show ecmp (0, fr a) (1, (false, 0, 0)) = -1; unfold ecmp; rfl
        rw [e3] at he'; omega
      · have e3 : ecmp (rdE true (-1) a) (rdE false 1 b) = -1 := by show ecmp (-1, (false, 0, 0)) (0, fr b) = -1; unfold ecmp; rfl
        rw [e3] at he'; omega
      · have e3 : ecmp (rdE true (-1) a) (rdE true 1 b) = -1 := by show ecmp (-1, (false, 0, 0)) (1, (false, 0, 0)) = -1; unfold ecmp; rfl
        rw [e3] at he'; omega
  have hs : ssgn (srd (a, b, x, y)) = ssg false (esgn (srd (a, b, x, y)).1) (esgn (srd (a, b, x, y)).2.1) := by unfold ssgn; rw [hne]
  rw [hs]
  have h5 := sl.1
  have h6 := sh.1
  generalize esgn (srd (a, b, x, y)).1 = l at *
  generalize esgn (srd (a, b, x, y)).2.1 = u at *
  generalize sgn (fr t).1 (fr t).2.1 = v at *
  clear hs hne sl sh lo hi h ev fa fb ft h1 h2 h3
  unfold ssg
  simp only [Bool.false_eq_true, if_false, decide_eq_true_eq, Bool.and_eq_true, beq_iff_eq]
  repeat' split
  all_goals omega
theorem guess_err (s1 : Bool) (p1 : Option Addr) (k1 c1 : Nat) (q1 : Option Addr) (l1 d1 : Nat) (sz1 : Bool) (pz1 : Option Addr) (kz1 cz1 : Nat) (qz1 : Option Addr) (lz1 dz1 : Nat) (x1 : Bool) (y1 : Bool) (s2 : Bool) (p2 : Option Addr) (k2 c2 : Nat) (q2 : Option Addr) (l2 d2 : Nat) (s c : Int) (w : World) (HS : Hid (∀ W, Below w.heap.size w W → Calls Tryz.prog 16 #[.agg #[.bool s1, .slice p1 k1 c1, .slice q1 l1 d1, .bool sz1, .slice pz1 kz1 cz1, .slice qz1 lz1 dz1, .bool x1, .bool y1]] W fun e w' => e = .returned (.tuple #[.int .i64 s, .int .i64 c]) ∧ Below W.heap.size W w')) (HA : Hid (∀ W, Below w.heap.size w W → Calls Tryz.prog 20 #[] W fun e w' => e = .returned (.bool true) ∧ Below W.heap.size W w')) (hc : c = 1) :
    Calls Tryz.prog 8 #[.agg #[.bool s1, .slice p1 k1 c1, .slice q1 l1 d1, .bool sz1, .slice pz1 kz1 cz1, .slice qz1 lz1 dz1, .bool x1, .bool y1], .agg #[.bool s2, .slice p2 k2 c2, .slice q2 l2 d2]] w fun e w' => e = .returned (.bool true) ∧ Below w.heap.size w w' := by
  subst hc
  go_enter Tryz.func8, Tryz.ntmps8
  go_wp2_with fail
  have HV := hid (pre2 w [.bool s1, .slice p1 k1 c1, .slice q1 l1 d1, .bool sz1, .slice pz1 kz1 cz1, .slice qz1 lz1 dz1, .bool x1, .bool y1] [.bool s2, .slice p2 k2 c2, .slice q2 l2 d2] 26 24 nd8 nd3)
  generalize (w.alloc (.cells #[.bool s1, .slice p1 k1 c1, .slice q1 l1 d1, .bool sz1, .slice pz1 kz1 cz1, .slice qz1 lz1 dz1, .bool x1, .bool y1] 26)).alloc (.cells #[.bool s2, .slice p2 k2 c2, .slice q2 l2 d2] 24) = W0 at *
  refine (HS.out _ HV.out.2.2).mono ?_
  rintro e w1 ⟨rfl, hB1⟩
  have HE := hid (And.intro (HV.out.1.below hB1) (And.intro (HV.out.2.1.below hB1) (HV.out.2.2.trans (hB1.mono HV.out.2.2.size))))
  clear hB1
  go_wp2_with fail
  refine (HA.out _ HE.out.2.2).mono ?_
  rintro e w9 ⟨rfl, hB9⟩
  have HE9 := hid ((HE.out.2.2).trans (hB9.mono (HE.out.2.2).size))
  clear hB9
  go_wp2_with fail
  go_ret
  exact ⟨rfl, HE9.out⟩
theorem guess_out (s1 : Bool) (p1 : Option Addr) (k1 c1 : Nat) (q1 : Option Addr) (l1 d1 : Nat) (sz1 : Bool) (pz1 : Option Addr) (kz1 cz1 : Nat) (qz1 : Option Addr) (lz1 dz1 : Nat) (x1 : Bool) (y1 : Bool) (s2 : Bool) (p2 : Option Addr) (k2 c2 : Nat) (q2 : Option Addr) (l2 d2 : Nat) (s c : Int) (r : Bool) (w : World) (HS : Hid (∀ W, Below w.heap.size w W → Calls Tryz.prog 16 #[.agg #[.bool s1, .slice p1 k1 c1, .slice q1 l1 d1, .bool sz1, .slice pz1 kz1 cz1, .slice qz1 lz1 dz1, .bool x1, .bool y1]] W fun e w' => e = .returned (.tuple #[.int .i64 s, .int .i64 c]) ∧ Below W.heap.size W w')) (HH : Hid (∀ W, Below w.heap.size w W → Calls Tryz.prog 39 #[.agg #[.bool s1, .slice p1 k1 c1, .slice q1 l1 d1, .bool sz1, .slice pz1 kz1 cz1, .slice qz1 lz1 dz1, .bool x1, .bool y1], .agg #[.bool s2, .slice p2 k2 c2, .slice q2 l2 d2]] W fun e w' => e = .returned (.bool r) ∧ Below W.heap.size W w')) (HA : Hid (∀ W, Below w.heap.size w W → Calls Tryz.prog 20 #[] W fun e w' => e = .returned (.bool true) ∧ Below W.heap.size W w')) (hc : c = 0) (hr : r = false) :
    Calls Tryz.prog 8 #[.agg #[.bool s1, .slice p1 k1 c1, .slice q1 l1 d1, .bool sz1, .slice pz1 kz1 cz1, .slice qz1 lz1 dz1, .bool x1, .bool y1], .agg #[.bool s2, .slice p2 k2 c2, .slice q2 l2 d2]] w fun e w' => e = .returned (.bool true) ∧ Below w.heap.size w w' := by
  subst hc hr
  go_enter Tryz.func8, Tryz.ntmps8
  go_wp2_with fail
  have HV := hid (pre2 w [.bool s1, .slice p1 k1 c1, .slice q1 l1 d1, .bool sz1, .slice pz1 kz1 cz1, .slice qz1 lz1 dz1, .bool x1, .bool y1] [.bool s2, .slice p2 k2 c2, .slice q2 l2 d2] 26 24 nd8 nd3)
  generalize (w.alloc (.cells #[.bool s1, .slice p1 k1 c1, .slice q1 l1 d1, .bool sz1, .slice pz1 kz1 cz1, .slice qz1 lz1 dz1, .bool x1, .bool y1] 26)).alloc (.cells #[.bool s2, .slice p2 k2 c2, .slice q2 l2 d2] 24) = W0 at *
  refine (HS.out _ HV.out.2.2).mono ?_
  rintro e w1 ⟨rfl, hB1⟩
  have HE := hid (And.intro (HV.out.1.below hB1) (And.intro (HV.out.2.1.below hB1) (HV.out.2.2.trans (hB1.mono HV.out.2.2.size))))
  clear hB1
  obtain ⟨m0, m1, m2, m3, m4, m5, m6, m7, _⟩ := HE.out.1.cells8
  obtain ⟨n0, n1, n2, _⟩ := HE.out.2.1.cells3
  go_wp2_with fail
  refine (HH.out _ HE.out.2.2).mono ?_
  rintro e w2 ⟨rfl, hB2⟩
  have HE2 := hid (And.intro (HE.out.2.1.below hB2) (HE.out.2.2.trans (hB2.mono HE.out.2.2.size)))
  clear hB2 m0 m1 m2 m3 m4 m5 m6 m7 n0 n1 n2
  go_wp2_with fail
  refine (HA.out _ HE2.out.2).mono ?_
  rintro e w9 ⟨rfl, hB9⟩
  have HE9 := hid ((HE2.out.2).trans (hB9.mono (HE2.out.2).size))
  clear hB9
  go_wp2_with fail
  go_ret
  exact ⟨rfl, HE9.out⟩
theorem guess_p (s1 : Bool) (p1 : Option Addr) (k1 c1 : Nat) (q1 : Option Addr) (l1 d1 : Nat) (sz1 : Bool) (pz1 : Option Addr) (kz1 cz1 : Nat) (qz1 : Option Addr) (lz1 dz1 : Nat) (x1 : Bool) (y1 : Bool) (s2 : Bool) (p2 : Option Addr) (k2 c2 : Nat) (q2 : Option Addr) (l2 d2 : Nat) (s c v : Int) (r : Bool) (w : World) (HS : Hid (∀ W, Below w.heap.size w W → Calls Tryz.prog 16 #[.agg #[.bool s1, .slice p1 k1 c1, .slice q1 l1 d1, .bool sz1, .slice pz1 kz1 cz1, .slice qz1 lz1 dz1, .bool x1, .bool y1]] W fun e w' => e = .returned (.tuple #[.int .i64 s, .int .i64 c]) ∧ Below W.heap.size W w')) (HH : Hid (∀ W, Below w.heap.size w W → Calls Tryz.prog 39 #[.agg #[.bool s1, .slice p1 k1 c1, .slice q1 l1 d1, .bool sz1, .slice pz1 kz1 cz1, .slice qz1 lz1 dz1, .bool x1, .bool y1], .agg #[.bool s2, .slice p2 k2 c2, .slice q2 l2 d2]] W fun e w' => e = .returned (.bool r) ∧ Below W.heap.size W w')) (HN : Hid (∀ W, Below w.heap.size w W → Calls Tryz.prog 40 #[.agg #[.bool s2, .slice p2 k2 c2, .slice q2 l2 d2]] W fun e w' => e = .returned (.tuple #[.int .i64 v, .int .i64 0]) ∧ Below W.heap.size W w')) (HA : Hid (∀ W, Below w.heap.size w W → Calls Tryz.prog 20 #[] W fun e w' => e = .returned (.bool true) ∧ Below W.heap.size W w')) (hc : c = 0) (hr : r = true) (hs : s = 2) (hv : v = 1) :
    Calls Tryz.prog 8 #[.agg #[.bool s1, .slice p1 k1 c1, .slice q1 l1 d1, .bool sz1, .slice pz1 kz1 cz1, .slice qz1 lz1 dz1, .bool x1, .bool y1], .agg #[.bool s2, .slice p2 k2 c2, .slice q2 l2 d2]] w fun e w' => e = .returned (.bool true) ∧ Below w.heap.size w w' := by
  subst hc hr hs
  subst hv
  go_enter Tryz.func8, Tryz.ntmps8
  go_wp2_with fail
  have HV := hid (pre2 w [.bool s1, .slice p1 k1 c1, .slice q1 l1 d1, .bool sz1, .slice pz1 kz1 cz1, .slice qz1 lz1 dz1, .bool x1, .bool y1] [.bool s2, .slice p2 k2 c2, .slice q2 l2 d2] 26 24 nd8 nd3)
  generalize (w.alloc (.cells #[.bool s1, .slice p1 k1 c1, .slice q1 l1 d1, .bool sz1, .slice pz1 kz1 cz1, .slice qz1 lz1 dz1, .bool x1, .bool y1] 26)).alloc (.cells #[.bool s2, .slice p2 k2 c2, .slice q2 l2 d2] 24) = W0 at *
  refine (HS.out _ HV.out.2.2).mono ?_
  rintro e w1 ⟨rfl, hB1⟩
  have HE := hid (And.intro (HV.out.1.below hB1) (And.intro (HV.out.2.1.below hB1) (HV.out.2.2.trans (hB1.mono HV.out.2.2.size))))
  clear hB1
  obtain ⟨m0, m1, m2, m3, m4, m5, m6, m7, _⟩ := HE.out.1.cells8
  obtain ⟨n0, n1, n2, _⟩ := HE.out.2.1.cells3
  go_wp2_with fail
  refine (HH.out _ HE.out.2.2).mono ?_
  rintro e w2 ⟨rfl, hB2⟩
  have HE2 := hid (And.intro (HE.out.2.1.below hB2) (HE.out.2.2.trans (hB2.mono HE.out.2.2.size)))
  clear hB2 m0 m1 m2 m3 m4 m5 m6 m7 n0 n1 n2
  obtain ⟨n0, n1, n2, _⟩ := HE2.out.1.cells3
  go_wp2_with fail
  refine (HN.out _ HE2.out.2).mono ?_
  rintro e w3 ⟨rfl, hB3⟩
  have HE3 := hid (HE2.out.2.trans (hB3.mono HE2.out.2.size))
  clear hB3 n0 n1 n2
  go_wp2_with fail
  refine (HA.out _ HE3.out).mono ?_
  rintro e w9 ⟨rfl, hB9⟩
  have HE9 := hid ((HE3.out).trans (hB9.mono (HE3.out).size))
  clear hB9
  go_wp2_with fail
  go_ret
  exact ⟨rfl, HE9.out⟩
theorem guess_nn (s1 : Bool) (p1 : Option Addr) (k1 c1 : Nat) (q1 : Option Addr) (l1 d1 : Nat) (sz1 : Bool) (pz1 : Option Addr) (kz1 cz1 : Nat) (qz1 : Option Addr) (lz1 dz1 : Nat) (x1 : Bool) (y1 : Bool) (s2 : Bool) (p2 : Option Addr) (k2 c2 : Nat) (q2 : Option Addr) (l2 d2 : Nat) (s c v : Int) (r : Bool) (w : World) (HS : Hid (∀ W, Below w.heap.size w W → Calls Tryz.prog 16 #[.agg #[.bool s1, .slice p1 k1 c1, .slice q1 l1 d1, .bool sz1, .slice pz1 kz1 cz1, .slice qz1 lz1 dz1, .bool x1, .bool y1]] W fun e w' => e = .returned (.tuple #[.int .i64 s, .int .i64 c]) ∧ Below W.heap.size W w')) (HH : Hid (∀ W, Below w.heap.size w W → Calls Tryz.prog 39 #[.agg #[.bool s1, .slice p1 k1 c1, .slice q1 l1 d1, .bool sz1, .slice pz1 kz1 cz1, .slice qz1 lz1 dz1, .bool x1, .bool y1], .agg #[.bool s2, .slice p2 k2 c2, .slice q2 l2 d2]] W fun e w' => e = .returned (.bool r) ∧ Below W.heap.size W w')) (HN : Hid (∀ W, Below w.heap.size w W → Calls Tryz.prog 40 #[.agg #[.bool s2, .slice p2 k2 c2, .slice q2 l2 d2]] W fun e w' => e = .returned (.tuple #[.int .i64 v, .int .i64 0]) ∧ Below W.heap.size W w')) (HA : Hid (∀ W, Below w.heap.size w W → Calls Tryz.prog 20 #[] W fun e w' => e = .returned (.bool true) ∧ Below W.heap.size W w')) (hc : c = 0) (hr : r = true) (hs : s = 1) (hv : 0 ≤ v) :
    Calls Tryz.prog 8 #[.agg #[.bool s1, .slice p1 k1 c1, .slice q1 l1 d1, .bool sz1, .slice pz1 kz1 cz1, .slice qz1 lz1 dz1, .bool x1, .bool y1], .agg #[.bool s2, .slice p2 k2 c2, .slice q2 l2 d2]] w fun e w' => e = .returned (.bool true) ∧ Below w.heap.size w w' := by
  subst hc hr hs
  have f1 : decide (0 ≤ v) = true := decide_eq_true hv
  clear hv
  go_enter Tryz.func8, Tryz.ntmps8
  go_wp2_with fail
  have HV := hid (pre2 w [.bool s1, .slice p1 k1 c1, .slice q1 l1 d1, .bool sz1, .slice pz1 kz1 cz1, .slice qz1 lz1 dz1, .bool x1, .bool y1] [.bool s2, .slice p2 k2 c2, .slice q2 l2 d2] 26 24 nd8 nd3)
  generalize (w.alloc (.cells #[.bool s1, .slice p1 k1 c1, .slice q1 l1 d1, .bool sz1, .slice pz1 kz1 cz1, .slice qz1 lz1 dz1, .bool x1, .bool y1] 26)).alloc (.cells #[.bool s2, .slice p2 k2 c2, .slice q2 l2 d2] 24) = W0 at *
  refine (HS.out _ HV.out.2.2).mono ?_
  rintro e w1 ⟨rfl, hB1⟩
  have HE := hid (And.intro (HV.out.1.below hB1) (And.intro (HV.out.2.1.below hB1) (HV.out.2.2.trans (hB1.mono HV.out.2.2.size))))
  clear hB1
  obtain ⟨m0, m1, m2, m3, m4, m5, m6, m7, _⟩ := HE.out.1.cells8
  obtain ⟨n0, n1, n2, _⟩ := HE.out.2.1.cells3
  go_wp2_with fail
  refine (HH.out _ HE.out.2.2).mono ?_
  rintro e w2 ⟨rfl, hB2⟩
  have HE2 := hid (And.intro (HE.out.2.1.below hB2) (HE.out.2.2.trans (hB2.mono HE.out.2.2.size)))
  clear hB2 m0 m1 m2 m3 m4 m5 m6 m7 n0 n1 n2
  obtain ⟨n0, n1, n2, _⟩ := HE2.out.1.cells3
  go_wp2_with fail
  refine (HN.out _ HE2.out.2).mono ?_
  rintro e w3 ⟨rfl, hB3⟩
  have HE3 := hid (HE2.out.2.trans (hB3.mono HE2.out.2.size))
  clear hB3 n0 n1 n2
  go_wp2_with fail
  refine (HA.out _ HE3.out).mono ?_
  rintro e w9 ⟨rfl, hB9⟩
  have HE9 := hid ((HE3.out).trans (hB9.mono (HE3.out).size))
  clear hB9
  go_wp2_with fail
  go_ret
  exact ⟨rfl, HE9.out⟩
theorem guess_z (s1 : Bool) (p1 : Option Addr) (k1 c1 : Nat) (q1 : Option Addr) (l1 d1 : Nat) (sz1 : Bool) (pz1 : Option Addr) (kz1 cz1 : Nat) (qz1 : Option Addr) (lz1 dz1 : Nat) (x1 : Bool) (y1 : Bool) (s2 : Bool) (p2 : Option Addr) (k2 c2 : Nat) (q2 : Option Addr) (l2 d2 : Nat) (s c v : Int) (r : Bool) (w : World) (HS : Hid (∀ W, Below w.heap.size w W → Calls Tryz.prog 16 #[.agg #[.bool s1, .slice p1 k1 c1, .slice q1 l1 d1, .bool sz1, .slice pz1 kz1 cz1, .slice qz1 lz1 dz1, .bool x1, .bool y1]] W fun e w' => e = .returned (.tuple #[.int .i64 s, .int .i64 c]) ∧ Below W.heap.size W w')) (HH : Hid (∀ W, Below w.heap.size w W → Calls Tryz.prog 39 #[.agg #[.bool s1, .slice p1 k1 c1, .slice q1 l1 d1, .bool sz1, .slice pz1 kz1 cz1, .slice qz1 lz1 dz1, .bool x1, .bool y1], .agg #[.bool s2, .slice p2 k2 c2, .slice q2 l2 d2]] W fun e w' => e = .returned (.bool r) ∧ Below W.heap.size W w')) (HN : Hid (∀ W, Below w.heap.size w W → Calls Tryz.prog 40 #[.agg #[.bool s2, .slice p2 k2 c2, .slice q2 l2 d2]] W fun e w' => e = .returned (.tuple #[.int .i64 v, .int .i64 0]) ∧ Below W.heap.size W w')) (HA : Hid (∀ W, Below w.heap.size w W → Calls Tryz.prog 20 #[] W fun e w' => e = .returned (.bool true) ∧ Below W.heap.size W w')) (hc : c = 0) (hr : r = true) (hs : s = 0) (hv : v = 0) :
    Calls Tryz.prog 8 #[.agg #[.bool s1, .slice p1 k1 c1, .slice q1 l1 d1, .bool sz1, .slice pz1 kz1 cz1, .slice qz1 lz1 dz1, .bool x1, .bool y1], .agg #[.bool s2, .slice p2 k2 c2, .slice q2 l2 d2]] w fun e w' => e = .returned (.bool true) ∧ Below w.heap.size w w' := by
  subst hc hr hs
  subst hv
  go_enter Tryz.func8, Tryz.ntmps8
  go_wp2_with fail
  have HV := hid (pre2 w [.bool s1, .slice p1 k1 c1, .slice q1 l1 d1, .bool sz1, .slice pz1 kz1 cz1, .slice qz1 lz1 dz1, .bool x1, .bool y1] [.bool s2, .slice p2 k2 c2, .slice q2 l2 d2] 26 24 nd8 nd3)
  generalize (w.alloc (.cells #[.bool s1, .slice p1 k1 c1, .slice q1 l1 d1, .bool sz1, .slice pz1 kz1 cz1, .slice qz1 lz1 dz1, .bool x1, .bool y1] 26)).alloc (.cells #[.bool s2, .slice p2 k2 c2, .slice q2 l2 d2] 24) = W0 at *
  refine (HS.out _ HV.out.2.2).mono ?_
  rintro e w1 ⟨rfl, hB1⟩
  have HE := hid (And.intro (HV.out.1.below hB1) (And.intro (HV.out.2.1.below hB1) (HV.out.2.2.trans (hB1.mono HV.out.2.2.size))))
  clear hB1
  obtain ⟨m0, m1, m2, m3, m4, m5, m6, m7, _⟩ := HE.out.1.cells8
  obtain ⟨n0, n1, n2, _⟩ := HE.out.2.1.cells3
  go_wp2_with fail
  refine (HH.out _ HE.out.2.2).mono ?_
  rintro e w2 ⟨rfl, hB2⟩
  have HE2 := hid (And.intro (HE.out.2.1.below hB2) (HE.out.2.2.trans (hB2.mono HE.out.2.2.size)))
  clear hB2 m0 m1 m2 m3 m4 m5 m6 m7 n0 n1 n2
  obtain ⟨n0, n1, n2, _⟩ := HE2.out.1.cells3
  go_wp2_with fail
  refine (HN.out _ HE2.out.2).mono ?_
  rintro e w3 ⟨rfl, hB3⟩
  have HE3 := hid (HE2.out.2.trans (hB3.mono HE2.out.2.size))
  clear hB3 n0 n1 n2
  go_wp2_with fail
  refine (HA.out _ HE3.out).mono ?_
  rintro e w9 ⟨rfl, hB9⟩
  have HE9 := hid ((HE3.out).trans (hB9.mono (HE3.out).size))
  clear hB9
  go_wp2_with fail
  go_ret
  exact ⟨rfl, HE9.out⟩
theorem guess_np (s1 : Bool) (p1 : Option Addr) (k1 c1 : Nat) (q1 : Option Addr) (l1 d1 : Nat) (sz1 : Bool) (pz1 : Option Addr) (kz1 cz1 : Nat) (qz1 : Option Addr) (lz1 dz1 : Nat) (x1 : Bool) (y1 : Bool) (s2 : Bool) (p2 : Option Addr) (k2 c2 : Nat) (q2 : Option Addr) (l2 d2 : Nat) (s c v : Int) (r : Bool) (w : World) (HS : Hid (∀ W, Below w.heap.size w W → Calls Tryz.prog 16 #[.agg #[.bool s1, .slice p1 k1 c1, .slice q1 l1 d1, .bool sz1, .slice pz1 kz1 cz1, .slice qz1 lz1 dz1, .bool x1, .bool y1]] W fun e w' => e = .returned (.tuple #[.int .i64 s, .int .i64 c]) ∧ Below W.heap.size W w')) (HH : Hid (∀ W, Below w.heap.size w W → Calls Tryz.prog 39 #[.agg #[.bool s1, .slice p1 k1 c1, .slice q1 l1 d1, .bool sz1, .slice pz1 kz1 cz1, .slice qz1 lz1 dz1, .bool x1, .bool y1], .agg #[.bool s2, .slice p2 k2 c2, .slice q2 l2 d2]] W fun e w' => e = .returned (.bool r) ∧ Below W.heap.size W w')) (HN : Hid (∀ W, Below w.heap.size w W → Calls Tryz.prog 40 #[.agg #[.bool s2, .slice p2 k2 c2, .slice q2 l2 d2]] W fun e w' => e = .returned (.tuple #[.int .i64 v, .int .i64 0]) ∧ Below W.heap.size W w')) (HA : Hid (∀ W, Below w.heap.size w W → Calls Tryz.prog 20 #[] W fun e w' => e = .returned (.bool true) ∧ Below W.heap.size W w')) (hc : c = 0) (hr : r = true) (hs : s = -1) (hv : v ≤ 0) :
    Calls Tryz.prog 8 #[.agg #[.bool s1, .slice p1 k1 c1, .slice q1 l1 d1, .bool sz1, .slice pz1 kz1 cz1, .slice qz1 lz1 dz1, .bool x1, .bool y1], .agg #[.bool s2, .slice p2 k2 c2, .slice q2 l2 d2]] w fun e w' => e = .returned (.bool true) ∧ Below w.heap.size w w' := by
  subst hc hr hs
  have f1 : decide (v ≤ 0) = true := decide_eq_true hv
  clear hv
  go_enter Tryz.func8, Tryz.ntmps8
  go_wp2_with fail
  have HV := hid (pre2 w [.bool s1, .slice p1 k1 c1, .slice q1 l1 d1, .bool sz1, .slice pz1 kz1 cz1, .slice qz1 lz1 dz1, .bool x1, .bool y1] [.bool s2, .slice p2 k2 c2, .slice q2 l2 d2] 26 24 nd8 nd3)
  generalize (w.alloc (.cells #[.bool s1, .slice p1 k1 c1, .slice q1 l1 d1, .bool sz1, .slice pz1 kz1 cz1, .slice qz1 lz1 dz1, .bool x1, .bool y1] 26)).alloc (.cells #[.bool s2, .slice p2 k2 c2, .slice q2 l2 d2] 24) = W0 at *
  refine (HS.out _ HV.out.2.2).mono ?_
  rintro e w1 ⟨rfl, hB1⟩
  have HE := hid (And.intro (HV.out.1.below hB1) (And.intro (HV.out.2.1.below hB1) (HV.out.2.2.trans (hB1.mono HV.out.2.2.size))))
  clear hB1
  obtain ⟨m0, m1, m2, m3, m4, m5, m6, m7, _⟩ := HE.out.1.cells8
  obtain ⟨n0, n1, n2, _⟩ := HE.out.2.1.cells3
  go_wp2_with fail
  refine (HH.out _ HE.out.2.2).mono ?_
  rintro e w2 ⟨rfl, hB2⟩
  have HE2 := hid (And.intro (HE.out.2.1.below hB2) (HE.out.2.2.trans (hB2.mono HE.out.2.2.size)))
  clear hB2 m0 m1 m2 m3 m4 m5 m6 m7 n0 n1 n2
  obtain ⟨n0, n1, n2, _⟩ := HE2.out.1.cells3
  go_wp2_with fail
  refine (HN.out _ HE2.out.2).mono ?_
  rintro e w3 ⟨rfl, hB3⟩
  have HE3 := hid (HE2.out.2.trans (hB3.mono HE2.out.2.size))
  clear hB3 n0 n1 n2
  go_wp2_with fail
  refine (HA.out _ HE3.out).mono ?_
  rintro e w9 ⟨rfl, hB9⟩
  have HE9 := hid ((HE3.out).trans (hB9.mono (HE3.out).size))
  clear hB9
  go_wp2_with fail
  go_ret
  exact ⟨rfl, HE9.out⟩
theorem guess_n (s1 : Bool) (p1 : Option Addr) (k1 c1 : Nat) (q1 : Option Addr) (l1 d1 : Nat) (sz1 : Bool) (pz1 : Option Addr) (kz1 cz1 : Nat) (qz1 : Option Addr) (lz1 dz1 : Nat) (x1 : Bool) (y1 : Bool) (s2 : Bool) (p2 : Option Addr) (k2 c2 : Nat) (q2 : Option Addr) (l2 d2 : Nat) (s c v : Int) (r : Bool) (w : World) (HS : Hid (∀ W, Below w.heap.size w W → Calls Tryz.prog 16 #[.agg #[.bool s1, .slice p1 k1 c1, .slice q1 l1 d1, .bool sz1, .slice pz1 kz1 cz1, .slice qz1 lz1 dz1, .bool x1, .bool y1]] W fun e w' => e = .returned (.tuple #[.int .i64 s, .int .i64 c]) ∧ Below W.heap.size W w')) (HH : Hid (∀ W, Below w.heap.size w W → Calls Tryz.prog 39 #[.agg #[.bool s1, .slice p1 k1 c1, .slice q1 l1 d1, .bool sz1, .slice pz1 kz1 cz1, .slice qz1 lz1 dz1, .bool x1, .bool y1], .agg #[.bool s2, .slice p2 k2 c2, .slice q2 l2 d2]] W fun e w' => e = .returned (.bool r) ∧ Below W.heap.size W w')) (HN : Hid (∀ W, Below w.heap.size w W → Calls Tryz.prog 40 #[.agg #[.bool s2, .slice p2 k2 c2, .slice q2 l2 d2]] W fun e w' => e = .returned (.tuple #[.int .i64 v, .int .i64 0]) ∧ Below W.heap.size W w')) (HA : Hid (∀ W, Below w.heap.size w W → Calls Tryz.prog 20 #[] W fun e w' => e = .returned (.bool true) ∧ Below W.heap.size W w')) (hc : c = 0) (hr : r = true) (hs : s = -2) (hv : v = -1) :
    Calls Tryz.prog 8 #[.agg #[.bool s1, .slice p1 k1 c1, .slice q1 l1 d1, .bool sz1, .slice pz1 kz1 cz1, .slice qz1 lz1 dz1, .bool x1, .bool y1], .agg #[.bool s2, .slice p2 k2 c2, .slice q2 l2 d2]] w fun e w' => e = .returned (.bool true) ∧ Below w.heap.size w w' := by
  subst hc hr hs
  subst hv
  go_enter Tryz.func8, Tryz.ntmps8
  go_wp2_with fail
  have HV := hid (pre2 w [.bool s1, .slice p1 k1 c1, .slice q1 l1 d1, .bool sz1, .slice pz1 kz1 cz1, .slice qz1 lz1 dz1, .bool x1, .bool y1] [.bool s2, .slice p2 k2 c2, .slice q2 l2 d2] 26 24 nd8 nd3)
  generalize (w.alloc (.cells #[.bool s1, .slice p1 k1 c1, .slice q1 l1 d1, .bool sz1, .slice pz1 kz1 cz1, .slice qz1 lz1 dz1, .bool x1, .bool y1] 26)).alloc (.cells #[.bool s2, .slice p2 k2 c2, .slice q2 l2 d2] 24) = W0 at *
  refine (HS.out _ HV.out.2.2).mono ?_
  rintro e w1 ⟨rfl, hB1⟩
  have HE := hid (And.intro (HV.out.1.below hB1) (And.intro (HV.out.2.1.below hB1) (HV.out.2.2.trans (hB1.mono HV.out.2.2.size))))
  clear hB1
  obtain ⟨m0, m1, m2, m3, m4, m5, m6, m7, _⟩ := HE.out.1.cells8
  obtain ⟨n0, n1, n2, _⟩ := HE.out.2.1.cells3
  go_wp2_with fail
  refine (HH.out _ HE.out.2.2).mono ?_
  rintro e w2 ⟨rfl, hB2⟩
  have HE2 := hid (And.intro (HE.out.2.1.below hB2) (HE.out.2.2.trans (hB2.mono HE.out.2.2.size)))
  clear hB2 m0 m1 m2 m3 m4 m5 m6 m7 n0 n1 n2
  obtain ⟨n0, n1, n2, _⟩ := HE2.out.1.cells3
  go_wp2_with fail
  refine (HN.out _ HE2.out.2).mono ?_
  rintro e w3 ⟨rfl, hB3⟩
  have HE3 := hid (HE2.out.2.trans (hB3.mono HE2.out.2.size))
  clear hB3 n0 n1 n2
  go_wp2_with fail
  refine (HA.out _ HE3.out).mono ?_
  rintro e w9 ⟨rfl, hB9⟩
  have HE9 := hid ((HE3.out).trans (hB9.mono (HE3.out).size))
  clear hB9
  go_wp2_with fail
  go_ret
  exact ⟨rfl, HE9.out⟩
theorem guess_m (s1 : Bool) (p1 : Option Addr) (k1 c1 : Nat) (q1 : Option Addr) (l1 d1 : Nat) (sz1 : Bool) (pz1 : Option Addr) (kz1 cz1 : Nat) (qz1 : Option Addr) (lz1 dz1 : Nat) (x1 : Bool) (y1 : Bool) (s2 : Bool) (p2 : Option Addr) (k2 c2 : Nat) (q2 : Option Addr) (l2 d2 : Nat) (s c v : Int) (r : Bool) (w : World) (HS : Hid (∀ W, Below w.heap.size w W → Calls Tryz.prog 16 #[.agg #[.bool s1, .slice p1 k1 c1, .slice q1 l1 d1, .bool sz1, .slice pz1 kz1 cz1, .slice qz1 lz1 dz1, .bool x1, .bool y1]] W fun e w' => e = .returned (.tuple #[.int .i64 s, .int .i64 c]) ∧ Below W.heap.size W w')) (HH : Hid (∀ W, Below w.heap.size w W → Calls Tryz.prog 39 #[.agg #[.bool s1, .slice p1 k1 c1, .slice q1 l1 d1, .bool sz1, .slice pz1 kz1 cz1, .slice qz1 lz1 dz1, .bool x1, .bool y1], .agg #[.bool s2, .slice p2 k2 c2, .slice q2 l2 d2]] W fun e w' => e = .returned (.bool r) ∧ Below W.heap.size W w')) (HN : Hid (∀ W, Below w.heap.size w W → Calls Tryz.prog 40 #[.agg #[.bool s2, .slice p2 k2 c2, .slice q2 l2 d2]] W fun e w' => e = .returned (.tuple #[.int .i64 v, .int .i64 0]) ∧ Below W.heap.size W w')) (HA : Hid (∀ W, Below w.heap.size w W → Calls Tryz.prog 20 #[] W fun e w' => e = .returned (.bool true) ∧ Below W.heap.size W w')) (hc : c = 0) (hr : r = true) (hs : s = 3)  :
    Calls Tryz.prog 8 #[.agg #[.bool s1, .slice p1 k1 c1, .slice q1 l1 d1, .bool sz1, .slice pz1 kz1 cz1, .slice qz1 lz1 dz1, .bool x1, .bool y1], .agg #[.bool s2, .slice p2 k2 c2, .slice q2 l2 d2]] w fun e w' => e = .returned (.bool true) ∧ Below w.heap.size w w' := by
  subst hc hr hs
  go_enter Tryz.func8, Tryz.ntmps8
  go_wp2_with fail
  have HV := hid (pre2 w [.bool s1, .slice p1 k1 c1, .slice q1 l1 d1, .bool sz1, .slice pz1 kz1 cz1, .slice qz1 lz1 dz1, .bool x1, .bool y1] [.bool s2, .slice p2 k2 c2, .slice q2 l2 d2] 26 24 nd8 nd3)
  generalize (w.alloc (.cells #[.bool s1, .slice p1 k1 c1, .slice q1 l1 d1, .bool sz1, .slice pz1 kz1 cz1, .slice qz1 lz1 dz1, .bool x1, .bool y1] 26)).alloc (.cells #[.bool s2, .slice p2 k2 c2, .slice q2 l2 d2] 24) = W0 at *
  refine (HS.out _ HV.out.2.2).mono ?_
  rintro e w1 ⟨rfl, hB1⟩
  have HE := hid (And.intro (HV.out.1.below hB1) (And.intro (HV.out.2.1.below hB1) (HV.out.2.2.trans (hB1.mono HV.out.2.2.size))))
  clear hB1
  obtain ⟨m0, m1, m2, m3, m4, m5, m6, m7, _⟩ := HE.out.1.cells8
  obtain ⟨n0, n1, n2, _⟩ := HE.out.2.1.cells3
  go_wp2_with fail
  refine (HH.out _ HE.out.2.2).mono ?_
  rintro e w2 ⟨rfl, hB2⟩
  have HE2 := hid (And.intro (HE.out.2.1.below hB2) (HE.out.2.2.trans (hB2.mono HE.out.2.2.size)))
  clear hB2 m0 m1 m2 m3 m4 m5 m6 m7 n0 n1 n2
  obtain ⟨n0, n1, n2, _⟩ := HE2.out.1.cells3
  go_wp2_with fail
  refine (HN.out _ HE2.out.2).mono ?_
  rintro e w3 ⟨rfl, hB3⟩
  have HE3 := hid (HE2.out.2.trans (hB3.mono HE2.out.2.size))
  clear hB3 n0 n1 n2
  go_wp2_with fail
  refine (HA.out _ HE3.out).mono ?_
  rintro e w9 ⟨rfl, hB9⟩
  have HE9 := hid ((HE3.out).trans (hB9.mono (HE3.out).size))
  clear hB9
  go_wp2_with fail
  go_ret
  exact ⟨rfl, HE9.out⟩
theorem IntervalGuess_iv (s1 : Bool) (p1 : Option Addr) (k1 c1 : Nat) (q1 : Option Addr) (l1 d1 : Nat) (sz1 : Bool) (pz1 : Option Addr) (kz1 cz1 : Nat) (qz1 : Option Addr) (lz1 dz1 : Nat) (x1 : Bool) (y1 : Bool) (s2 : Bool) (p2 : Option Addr) (k2 c2 : Nat) (q2 : Option Addr) (l2 d2 : Nat) (a b t : Bool × Nat × Nat) (w : World) (ha : NRep w (.agg #[.bool s1, .slice p1 k1 c1, .slice q1 l1 d1]) a) (hb : NRep w (.agg #[.bool sz1, .slice pz1 kz1 cz1, .slice qz1 lz1 dz1]) b) (hx : NRep w (.agg #[.bool s2, .slice p2 k2 c2, .slice q2 l2 d2]) t) (ht : TabOk w) :
    Calls Tryz.prog 8 #[.agg #[.bool s1, .slice p1 k1 c1, .slice q1 l1 d1, .bool sz1, .slice pz1 kz1 cz1, .slice qz1 lz1 dz1, .bool x1, .bool y1], .agg #[.bool s2, .slice p2 k2 c2, .slice q2 l2 d2]] w fun e w' => e = .returned (.bool true) ∧ Below w.heap.size w w' := by
  have HS := hid (fun (W : World) (hW : Below w.heap.size w W) => iSign_any s1 p1 k1 c1 q1 l1 d1 sz1 pz1 kz1 cz1 qz1 lz1 dz1 x1 y1 a b W (ha.below hW) (hb.below hW) (ht.below hW))
  have HH := hid (fun (W : World) (hW : Below w.heap.size w W) => lawHas_any s1 p1 k1 c1 q1 l1 d1 sz1 pz1 kz1 cz1 qz1 lz1 dz1 x1 y1 s2 p2 k2 c2 q2 l2 d2 a b t W (ha.below hW) (hb.below hW) (hx.below hW) (ht.below hW))
  have HA := hid (fun (W : World) (hW : Below w.heap.size w W) => awake3_any W (ht.below hW))
  cases hl : ilarge (a, b, x1, y1)
  · have ec : icode (a, b, x1, y1) = 0 := by unfold icode; rw [hl]; rfl
    rw [hl, ec] at HS
    cases hr : hval (a, b, x1, y1) t
    · rw [hr] at HH
      exact guess_out s1 p1 k1 c1 q1 l1 d1 sz1 pz1 kz1 cz1 qz1 lz1 dz1 x1 y1 s2 p2 k2 c2 q2 l2 d2 _ 0 false w HS HH HA rfl rfl
    · rw [hr] at HH
      have h' : (large a.2.1 a.2.2 || large b.2.1 b.2.2) = false := hl
      rw [Bool.or_eq_false_iff] at h'
      unfold hval at hr
      rw [hl, Bool.false_or] at hr
      cases h3 : large t.2.1 t.2.2
      · rw [h3] at hr
        have HN := hid (fun (W : World) (hW : Below w.heap.size w W) => nSign_any (.agg #[.bool s2, .slice p2 k2 c2, .slice q2 l2 d2]) t W (hx.below hW) (ht.below hW))
        have eg : sgc t = 0 := by unfold sgc; rw [h3]; rfl
        rw [eg] at HN
        rcases guess (x := x1) (y := y1) h'.1 h'.2 h3 hr with ⟨h5, h6⟩ | ⟨h5, h6⟩ | ⟨h5, h6⟩ | ⟨h5, h6⟩ | ⟨h5, h6⟩ | h5
        · exact guess_p s1 p1 k1 c1 q1 l1 d1 sz1 pz1 kz1 cz1 qz1 lz1 dz1 x1 y1 s2 p2 k2 c2 q2 l2 d2 _ 0 _ true w HS HH HN HA rfl rfl h5 h6
        · exact guess_nn s1 p1 k1 c1 q1 l1 d1 sz1 pz1 kz1 cz1 qz1 lz1 dz1 x1 y1 s2 p2 k2 c2 q2 l2 d2 _ 0 _ true w HS HH HN HA rfl rfl h5 h6
        · exact guess_z s1 p1 k1 c1 q1 l1 d1 sz1 pz1 kz1 cz1 qz1 lz1 dz1 x1 y1 s2 p2 k2 c2 q2 l2 d2 _ 0 _ true w HS HH HN HA rfl rfl h5 h6
        · exact guess_np s1 p1 k1 c1 q1 l1 d1 sz1 pz1 kz1 cz1 qz1 lz1 dz1 x1 y1 s2 p2 k2 c2 q2 l2 d2 _ 0 _ true w HS HH HN HA rfl rfl h5 h6
        · exact guess_n s1 p1 k1 c1 q1 l1 d1 sz1 pz1 kz1 cz1 qz1 lz1 dz1 x1 y1 s2 p2 k2 c2 q2 l2 d2 _ 0 _ true w HS HH HN HA rfl rfl h5 h6
        · exact guess_m s1 p1 k1 c1 q1 l1 d1 sz1 pz1 kz1 cz1 qz1 lz1 dz1 x1 y1 s2 p2 k2 c2 q2 l2 d2 _ 0 _ true w HS HH HN HA rfl rfl h5
      · rw [h3] at hr
        exact Bool.noConfusion hr
  · have ec : icode (a, b, x1, y1) = 1 := by unfold icode; rw [hl]; rfl
    rw [ec] at HS
    exact guess_err s1 p1 k1 c1 q1 l1 d1 sz1 pz1 kz1 cz1 qz1 lz1 dz1 x1 y1 s2 p2 k2 c2 q2 l2 d2 _ 1 w HS HA rfl
theorem IntervalGuess_any (v u : Value) (i : (Bool × Nat × Nat) × (Bool × Nat × Nat) × Bool × Bool) (t : Bool × Nat × Nat) (w : World) (ha : IRep w v i) (hb : NRep w u t) (ht : TabOk w) :
    Calls Tryz.prog 8 #[v, u] w fun e w' => e = .returned (.bool true) ∧ Below w.heap.size w w' := by
  obtain ⟨s1, p1, k1, c1, q1, l1, d1, sz1, pz1, kz1, cz1, qz1, lz1, dz1, x1, y1, rfl, h1, h2, rfl, rfl⟩ := ha
  have HY := hb
  obtain ⟨_, _, rfl, ⟨p2, k2, c2, rfl, _⟩, ⟨q2, l2, d2, rfl, _⟩⟩ := hb
  exact IntervalGuess_iv s1 p1 k1 c1 q1 l1 d1 sz1 pz1 kz1 cz1 qz1 lz1 dz1 _ _ _ p2 k2 c2 q2 l2 d2 i.1 i.2.1 t w h1 h2 HY ht
end Go.Proofs.YtimjoejkjgklaaaGreatDoor
