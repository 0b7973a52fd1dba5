/- Roots on a grid, in the specification: negative numbers, and the call itself. -/
import Derived.Test.YtjnfnngobkjneaaGreatDoorGrtT
import Derived.Test.YtjnfnngobkjneaaGreatDoorGrtS
namespace Go.Proofs.YtjnfnngobkjneaaGreatDoor
open Go.RowKit Dg Rt

set_option maxHeartbeats 8000000 in
set_option maxRecDepth 100000 in
theorem rBelowNeg_any (v : Value) (t : Bool × Nat × Nat) (n p : Nat) (w : World) (h : QNorm w v t) (hs : t.1 = true) (h0 : 0 < t.2.2) (hn : t.2.1 < B16 ^ 128) (hd : t.2.2 < B16 ^ 128) (h2 : 2 ≤ n) (h8 : n ≤ 8) (hp : p ≤ 256) :
    Calls Tryz.prog 29 #[v, .int .i64 (n : Int), .int .i64 (p : Int)] w fun e w' => ∃ v', e = .returned v' ∧ QNorm w' v' (grdn t n p) ∧ Below w.heap.size w w' := by
  have hf : (fneg t).1 = false := by unfold fneg; rw [hs]; rfl
  have HO1 := hid (fun (W : World) (hW : Below w.heap.size w W) => qopen (t := fneg t) (Opp_any v t W (h.below hW)))
  have HRA := hid (fun (W : World) (v1 : Value) (h1 : QNorm W v1 (fneg t)) => qopen (t := grup (fneg t) n p) (rAbovePos_any v1 (fneg t) n p W h1 hf h0 hn hd h2 h8 hp))
  have HO2 := hid (fun (W : World) (v1 : Value) (h1 : QNorm W v1 (grup (fneg t) n p)) => qopen (t := grdn t n p) (by rw [grdn_neg hs]; exact Opp_any v1 _ W h1))
  obtain ⟨vn1, vd1, rfl, hrn, hrd⟩ := h
  obtain ⟨p1, k1, c1, rfl, _⟩ := hrn
  obtain ⟨p2, k2, c2, rfl, _⟩ := hrd
  rw [hs] at HO1 ⊢
  clear hs hf h0 hn hd h2 h8 hp
  obtain ⟨t1, ht1⟩ : ∃ c, c = fneg t := ⟨_, rfl⟩
  rw [← ht1] at HO1 HRA HO2
  obtain ⟨t2, ht2⟩ : ∃ c, c = grup t1 n p := ⟨_, rfl⟩
  rw [← ht2] at HRA HO2
  obtain ⟨t3, ht3⟩ : ∃ c, c = grdn t n p := ⟨_, rfl⟩
  rw [← ht3] at HO2 ⊢
  clear ht1 ht2 ht3
  have hal := below_alloc2 w (.cells #[.bool true, .slice p1 k1 c1, .slice p2 k2 c2] 53) (.cells #[.bool false, .slice none 0 0, .slice none 0 0] 53)
  have hVa := (Var3.alloc w (x := .bool true) (y := .slice p1 k1 c1) (z := .slice p2 k2 c2) 53 trivial trivial trivial).below ((Below.refl _ _).alloc (Nat.le_refl _) (.cells #[.bool false, .slice none 0 0, .slice none 0 0] 53))
  have hVr := Var3.alloc2 w (.cells #[.bool true, .slice p1 k1 c1, .slice p2 k2 c2] 53) (x := .bool false) (y := .slice none 0 0) (z := .slice none 0 0) 53 trivial trivial trivial
  go_enter Tryz.func29, Tryz.ntmps29
  go_upto_region 1 with fail
  generalize (w.alloc (.cells #[.bool true, .slice p1 k1 c1, .slice p2 k2 c2] 53)).alloc (.cells #[.bool false, .slice none 0 0, .slice none 0 0] 53) = W0 at *
  have HV := hid (And.intro hVr hal)
  obtain ⟨a0, a1, a2, _⟩ := id hVa.cells
  clear hVr hVa hal
  go_wp2_with fail
  refine (HO1.out _ HV.out.2).mono ?_
  rintro e w1 ⟨sg, pa, ka, ca, pb, kb, cb, rfl, hQ, hst⟩
  replace HV := hid (And.intro (HV.out.1.below hst) (HV.out.2.trans (hst.mono HV.out.2.size)))
  clear hst a0 a1 a2
  go_wp2_with fail
  refine (HRA.out _ _ hQ.out).mono ?_
  rintro e w2 ⟨sg2, pa2, ka2, ca2, pb2, kb2, cb2, rfl, hQ2, hst⟩
  replace HV := hid (And.intro (HV.out.1.below hst) (HV.out.2.trans (hst.mono HV.out.2.size)))
  clear hst hQ
  go_wp2_with fail
  refine (HO2.out _ _ hQ2.out).mono ?_
  rintro e w3 ⟨sg3, pa3, ka3, ca3, pb3, kb3, cb3, rfl, HF, hst⟩
  replace HV := hid (And.intro (HV.out.1.below hst) (HV.out.2.trans (hst.mono HV.out.2.size)))
  clear hst hQ2
  obtain ⟨x0, x1, x2, y0, y1, y2⟩ := HV.out.1.cells
  go_wp2_with fail
  exact rRB_ret rfl (HV.out.1.store trivial trivial trivial) ⟨_, rfl, HF.out.store3 HV.out.1 _ _ _, below_set3 HV.out.2 (Nat.le_succ _)⟩
theorem rBelow_any (v : Value) (t : Bool × Nat × Nat) (n p : Nat) (w : World) (h : QNorm w v t) (h0 : 0 < t.2.2) (hn : t.2.1 < B16 ^ 128) (hd : t.2.2 < B16 ^ 128) (h2 : 2 ≤ n) (h8 : n ≤ 8) (hp : p ≤ 256) :
    Calls Tryz.prog 29 #[v, .int .i64 (n : Int), .int .i64 (p : Int)] w fun e w' => ∃ v', e = .returned v' ∧ QNorm w' v' (grdn t n p) ∧ Below w.heap.size w w' := by
  cases hs : t.1
  · exact rBelowPos_any v t n p w h hs h0 hn hd h2 h8 hp
  · exact rBelowNeg_any v t n p w h hs h0 hn hd h2 h8 hp

set_option maxHeartbeats 8000000 in
set_option maxRecDepth 100000 in
theorem rAboveNeg_any (v : Value) (t : Bool × Nat × Nat) (n p : Nat) (w : World) (h : QNorm w v t) (hs : t.1 = true) (h0 : 0 < t.2.2) (hn : t.2.1 < B16 ^ 128) (hd : t.2.2 < B16 ^ 128) (h2 : 2 ≤ n) (h8 : n ≤ 8) (hp : p ≤ 256) :
    Calls Tryz.prog 28 #[v, .int .i64 (n : Int), .int .i64 (p : Int)] w fun e w' => ∃ v', e = .returned v' ∧ QNorm w' v' (grup t n p) ∧ Below w.heap.size w w' := by
  have hf : (fneg t).1 = false := by unfold fneg; rw [hs]; rfl
  have HO1 := hid (fun (W : World) (hW : Below w.heap.size w W) => qopen (t := fneg t) (Opp_any v t W (h.below hW)))
  have HRA := hid (fun (W : World) (v1 : Value) (h1 : QNorm W v1 (fneg t)) => qopen (t := grdn (fneg t) n p) (rBelowPos_any v1 (fneg t) n p W h1 hf h0 hn hd h2 h8 hp))
  have HO2 := hid (fun (W : World) (v1 : Value) (h1 : QNorm W v1 (grdn (fneg t) n p)) => qopen (t := grup t n p) (by rw [grup_neg hs]; exact Opp_any v1 _ W h1))
  obtain ⟨vn1, vd1, rfl, hrn, hrd⟩ := h
  obtain ⟨p1, k1, c1, rfl, _⟩ := hrn
  obtain ⟨p2, k2, c2, rfl, _⟩ := hrd
  rw [hs] at HO1 ⊢
  clear hs hf h0 hn hd h2 h8 hp
  obtain ⟨t1, ht1⟩ : ∃ c, c = fneg t := ⟨_, rfl⟩
  rw [← ht1] at HO1 HRA HO2
  obtain ⟨t2, ht2⟩ : ∃ c, c = grdn t1 n p := ⟨_, rfl⟩
  rw [← ht2] at HRA HO2
  obtain ⟨t3, ht3⟩ : ∃ c, c = grup t n p := ⟨_, rfl⟩
  rw [← ht3] at HO2 ⊢
  clear ht1 ht2 ht3
  have hal := below_alloc2 w (.cells #[.bool true, .slice p1 k1 c1, .slice p2 k2 c2] 53) (.cells #[.bool false, .slice none 0 0, .slice none 0 0] 53)
  have hVa := (Var3.alloc w (x := .bool true) (y := .slice p1 k1 c1) (z := .slice p2 k2 c2) 53 trivial trivial trivial).below ((Below.refl _ _).alloc (Nat.le_refl _) (.cells #[.bool false, .slice none 0 0, .slice none 0 0] 53))
  have hVr := Var3.alloc2 w (.cells #[.bool true, .slice p1 k1 c1, .slice p2 k2 c2] 53) (x := .bool false) (y := .slice none 0 0) (z := .slice none 0 0) 53 trivial trivial trivial
  go_enter Tryz.func28, Tryz.ntmps28
  go_upto_region 1 with fail
  generalize (w.alloc (.cells #[.bool true, .slice p1 k1 c1, .slice p2 k2 c2] 53)).alloc (.cells #[.bool false, .slice none 0 0, .slice none 0 0] 53) = W0 at *
  have HV := hid (And.intro hVr hal)
  obtain ⟨a0, a1, a2, _⟩ := id hVa.cells
  clear hVr hVa hal
  go_wp2_with fail
  refine (HO1.out _ HV.out.2).mono ?_
  rintro e w1 ⟨sg, pa, ka, ca, pb, kb, cb, rfl, hQ, hst⟩
  replace HV := hid (And.intro (HV.out.1.below hst) (HV.out.2.trans (hst.mono HV.out.2.size)))
  clear hst a0 a1 a2
  go_wp2_with fail
  refine (HRA.out _ _ hQ.out).mono ?_
  rintro e w2 ⟨sg2, pa2, ka2, ca2, pb2, kb2, cb2, rfl, hQ2, hst⟩
  replace HV := hid (And.intro (HV.out.1.below hst) (HV.out.2.trans (hst.mono HV.out.2.size)))
  clear hst hQ
  go_wp2_with fail
  refine (HO2.out _ _ hQ2.out).mono ?_
  rintro e w3 ⟨sg3, pa3, ka3, ca3, pb3, kb3, cb3, rfl, HF, hst⟩
  replace HV := hid (And.intro (HV.out.1.below hst) (HV.out.2.trans (hst.mono HV.out.2.size)))
  clear hst hQ2
  obtain ⟨x0, x1, x2, y0, y1, y2⟩ := HV.out.1.cells
  go_wp2_with fail
  exact rRA_ret rfl (HV.out.1.store trivial trivial trivial) ⟨_, rfl, HF.out.store3 HV.out.1 _ _ _, below_set3 HV.out.2 (Nat.le_succ _)⟩
theorem rAbove_any (v : Value) (t : Bool × Nat × Nat) (n p : Nat) (w : World) (h : QNorm w v t) (h0 : 0 < t.2.2) (hn : t.2.1 < B16 ^ 128) (hd : t.2.2 < B16 ^ 128) (h2 : 2 ≤ n) (h8 : n ≤ 8) (hp : p ≤ 256) :
    Calls Tryz.prog 28 #[v, .int .i64 (n : Int), .int .i64 (p : Int)] w fun e w' => ∃ v', e = .returned v' ∧ QNorm w' v' (grup t n p) ∧ Below w.heap.size w w' := by
  cases hs : t.1
  · exact rAbovePos_any v t n p w h hs h0 hn hd h2 h8 hp
  · exact rAboveNeg_any v t n p w h hs h0 hn hd h2 h8 hp

theorem rGRootF_ret {W : World} {B : Nat} {x y z ev : Value} {tm : Array Value} {R : Ending → World → Prop} (h2 : tm[8]?.getD undef = .pointer (some ⟨B, 0, none⟩)) (h3 : tm[9]?.getD undef = ev) (hV : Var3 W B x y z)
    (hR : R (.returned (.tuple #[.agg #[x, y, z], ev])) W) : bodyPost Tryz.prog Tryz.f8 R .ret { tmps := tm, defers := [] } W := by
  obtain ⟨c0, c1, c2, _, _, _⟩ := hV.cells
  exact bodyPost_ret (v := .tuple #[.agg #[x, y, z], ev]) (by simp [results, Tryz.results8, go_sem, h2, h3, c0, c1, c2]) rfl hR

set_option maxHeartbeats 16000000 in
set_option maxRecDepth 100000 in
theorem rGRootF_u (vx : Value) (x : Bool × Nat × Nat) (q p : Int) (w : World) (hx : NRep w vx x) :
    Calls Tryz.prog 8 #[vx, .int .i64 q, .int .i64 p, .bool false] w fun e w' => Below w.heap.size w w' ∧ URF w' e (ucode x.2.1 x.2.2 (gcode (fr x) q p) (grdn (fr x) q.toNat p.toNat)) (resT (ucode x.2.1 x.2.2 (gcode (fr x) q p) (grdn (fr x) q.toNat p.toNat)) (grdn (fr x) q.toNat p.toNat)) := by
  have HX := hid hx
  obtain ⟨_, _, rfl, ⟨p1, k1, c1, rfl, _⟩, ⟨p2, k2, c2, rfl, _⟩⟩ := hx
  obtain ⟨s1, hsx⟩ : ∃ s, s = x.1 := ⟨_, rfl⟩
  rw [← hsx] at HX ⊢
  clear hsx
  obtain ⟨gc, hgc⟩ : ∃ c, c = gcode (fr x) q p := ⟨_, rfl⟩
  have HG : Hid (gc = if isIdx q = true ∧ inPrec p = true then (if q % 2 = 0 ∧ (fr x).1 = true then 5 else 0) else 2) := hid hgc
  rw [← hgc]
  obtain ⟨cc, hcc⟩ : ∃ c, c = ucode x.2.1 x.2.2 gc (grdn (fr x) q.toNat p.toNat) := ⟨_, rfl⟩
  rw [← hcc]
  obtain ⟨rt, hrt⟩ : ∃ r, r = resT cc (grdn (fr x) q.toNat p.toNat) := ⟨_, rfl⟩
  rw [← hrt]
  have HC := hid (And.intro hcc hrt)
  clear hcc hrt hgc
  go_enter Tryz.func8, Tryz.ntmps8
  go_upto_region 1 with fail
  have hVa := (Var3.alloc w (x := .bool s1) (y := .slice p1 k1 c1) (z := .slice p2 k2 c2) 24 trivial trivial trivial).below ((Below.refl _ _).alloc (Nat.le_refl _) (.cells #[.bool false, .slice none 0 0, .slice none 0 0] 24))
  have hVr := Var3.alloc2 w (.cells #[.bool s1, .slice p1 k1 c1, .slice p2 k2 c2] 24) (x := .bool false) (y := .slice none 0 0) (z := .slice none 0 0) 24 trivial trivial trivial
  have hB0 := below_alloc2 w (.cells #[.bool s1, .slice p1 k1 c1, .slice p2 k2 c2] 24) (.cells #[.bool false, .slice none 0 0, .slice none 0 0] 24)
  generalize (w.alloc (.cells #[.bool s1, .slice p1 k1 c1, .slice p2 k2 c2] 24)).alloc (.cells #[.bool false, .slice none 0 0, .slice none 0 0] 24) = W0 at *
  have HV := hid (And.intro hVr hB0)
  have HVa := hid hVa
  replace HX := hid (HX.out.below hB0)
  obtain ⟨x0, x1, x2, _⟩ := hVa.cells
  clear hVa hVr hB0
  go_wp2_with fail
  refine (Large_any _ x _ HX.out).mono ?_
  rintro e w1 ⟨rfl, hst⟩
  clear x0 x1 x2
  replace HX := hid (HX.out.below hst)
  replace HVa := hid (HVa.out.below hst)
  replace HV := hid (And.intro (HV.out.1.below hst) (HV.out.2.trans (hst.mono HV.out.2.size)))
  clear hst
  cases hl : large x.2.1 x.2.2
  case true =>
    have hc := HC.out.1
    rw [ucode_one hl] at hc
    subst hc
    have hr : rt = (false, 0, 0) := HC.out.2.trans (if_neg (by decide))
    subst hr
    clear hl HC HX HG
    obtain ⟨x0, x1, x2, y0, y1, y2⟩ := HV.out.1.cells
    go_wp2_with fail
    refine rGRootF_ret rfl rfl (HV.out.1.store trivial trivial trivial) ⟨below_set3 HV.out.2 (by omega), ?_⟩
    exact ⟨_, _, _, _, _, _, _, rfl, hid ⟨_, _, rfl, Rep.nil, Rep.nil⟩⟩
  case false =>
    have hc := HC.out.1
    have hr := HC.out.2
    rw [ucode_ok hl] at hc
    have hbx := fr_bd hl
    have hn : (fr x).2.1 < B16 ^ 128 := lt_W_B6 hbx.1 (Nat.le_refl _)
    have hd : (fr x).2.2 < B16 ^ 128 := lt_W_B6 hbx.2 (Nat.le_refl _)
    have h0 := (IsFr.fr x).pos
    have HO1 := hid (rOfF_any _ x w1 HX.out hl)
    by_cases hi : isIdx q = true ∧ inPrec p = true
    case neg =>
      have hg : gc = 2 := HG.out.trans (if_neg hi)
      subst hg
      rw [if_pos (by decide)] at hc
      subst hc
      have hrr : rt = (false, 0, 0) := hr.trans (if_neg (by decide))
      subst hrr
      have hor : q < 2 ∨ (¬ q < 2 ∧ 8 < q) ∨ (¬ q < 2 ∧ ¬ 8 < q ∧ p < 0) ∨ (¬ q < 2 ∧ ¬ 8 < q ∧ ¬ p < 0 ∧ 256 < p) := by
        unfold isIdx inPrec at hi
        rw [Bool.and_eq_true, Bool.and_eq_true, decide_eq_true_eq, decide_eq_true_eq, decide_eq_true_eq, decide_eq_true_eq] at hi
        omega
      clear hr hl HC HX HG hbx hn hd h0 HO1 hi
      obtain ⟨x0, x1, x2, y0, y1, y2⟩ := HV.out.1.cells
      rcases hor with o1 | ⟨o1, o2⟩ | ⟨o1, o2, o3⟩ | ⟨o1, o2, o3, o4⟩
      · have hd1 : decide (q < 2) = true := decide_eq_true o1
        go_wp2_with fail
        refine rGRootF_ret rfl rfl (HV.out.1.store trivial trivial trivial) ⟨below_set3 HV.out.2 (by omega), ?_⟩
        exact ⟨_, _, _, _, _, _, _, rfl, hid ⟨_, _, rfl, Rep.nil, Rep.nil⟩⟩
      · have hd1 : decide (q < 2) = false := decide_eq_false o1
        have hd2 : decide (8 < q) = true := decide_eq_true o2
        go_wp2_with fail
        refine rGRootF_ret rfl rfl (HV.out.1.store trivial trivial trivial) ⟨below_set3 HV.out.2 (by omega), ?_⟩
        exact ⟨_, _, _, _, _, _, _, rfl, hid ⟨_, _, rfl, Rep.nil, Rep.nil⟩⟩
      · have hd1 : decide (q < 2) = false := decide_eq_false o1
        have hd2 : decide (8 < q) = false := decide_eq_false o2
        have hd3 : decide (p < 0) = true := decide_eq_true o3
        go_wp2_with fail
        refine rGRootF_ret rfl rfl (HV.out.1.store trivial trivial trivial) ⟨below_set3 HV.out.2 (by omega), ?_⟩
        exact ⟨_, _, _, _, _, _, _, rfl, hid ⟨_, _, rfl, Rep.nil, Rep.nil⟩⟩
      · have hd1 : decide (q < 2) = false := decide_eq_false o1
        have hd2 : decide (8 < q) = false := decide_eq_false o2
        have hd3 : decide (p < 0) = false := decide_eq_false o3
        have hd4 : decide (256 < p) = true := decide_eq_true o4
        go_wp2_with fail
        refine rGRootF_ret rfl rfl (HV.out.1.store trivial trivial trivial) ⟨below_set3 HV.out.2 (by omega), ?_⟩
        exact ⟨_, _, _, _, _, _, _, rfl, hid ⟨_, _, rfl, Rep.nil, Rep.nil⟩⟩
    case pos =>
      have hg := HG.out.trans (if_pos hi)
      obtain ⟨k, m, rfl, rfl, h2, h8, hm⟩ : ∃ k m : Nat, q = k ∧ p = m ∧ 2 ≤ k ∧ k ≤ 8 ∧ m ≤ 256 := by
        obtain ⟨m, hm, hm2⟩ := inPrec_nat hi.2
        have h1 := hi.1
        unfold isIdx at h1
        rw [Bool.and_eq_true, decide_eq_true_eq, decide_eq_true_eq] at h1
        exact ⟨q.toNat, m, by omega, hm, by omega, by omega, hm2⟩
      rw [Int.toNat_natCast, Int.toNat_natCast] at hc hr
      have hd1 : decide ((k : Int) < 2) = false := decide_eq_false (by omega)
      have hd2 : decide (8 < (k : Int)) = false := decide_eq_false (by omega)
      have hd2' : decide (8 < k) = false := decide_eq_false (by omega)
      have hd1' : decide (k < 2) = false := decide_eq_false (by omega)
      have hd3 : decide ((m : Int) < 0) = false := decide_eq_false (by omega)
      have hd4 : decide (256 < (m : Int)) = false := decide_eq_false (by omega)
      have hd5 : decide (256 < m) = false := decide_eq_false (by omega)
      have HSg := hid (fun (W : World) (v : Value) (h : QNorm W v (fr x)) => Sgn_any v (fr x) W h (IsFr.fr x).zs)
      have hsg : decide (sgn (fr x).1 (fr x).2.1 < 0) = (fr x).1 := by
        have hz := (IsFr.fr x).zs
        unfold sgn
        cases h : (fr x).1
        · by_cases h0 : (fr x).2.1 = 0 <;> simp [h0]
        · have h0 : (fr x).2.1 ≠ 0 := fun h0 => by rw [hz h0] at h; exact absurd h (by decide)
          rw [if_neg h0]
          rfl
      obtain ⟨sg, hsgg⟩ : ∃ s, s = sgn (fr x).1 (fr x).2.1 := ⟨_, rfl⟩
      rw [← hsgg] at HSg hsg
      clear hsgg
      have HOp := hid (fun (W : World) (v1 : Value) (q1 : QNorm W v1 (fr x)) => qopen (t := grdn (fr x) k m) (rBelow_any v1 (fr x) k m W q1 h0 hn hd h2 h8 hm))
      have HDn := hid (fun (W : World) (v : Value) (q : QNorm W v (grdn (fr x) k m)) => Done_any v (grdn (fr x) k m) W q (grdn_fr (fr x) k m).pos (grdn_fr (fr x) k m).zs)
      clear hl hbx hn hd h0 hi HC HG h2 h8 hm
      obtain ⟨x0, x1, x2, _⟩ := HVa.out.cells
      by_cases he : (k : Int) % 2 = 0
      · have ho1 : ((k : Int) % 2 == 0) = true := by rw [he]; rfl
        have ho2 : (Int.tmod (k : Int) 2 == 0) = true := by rw [Int.tmod_eq_emod_of_nonneg (by omega)]; exact ho1
        cases hs : (fr x).1
        · rw [hs] at hsg
          have hgg : gc = 0 := hg.trans (if_neg fun h => by rw [hs] at h; exact absurd h.2 (by decide))
          subst hgg
          rw [if_neg (by decide)] at hc
          rw [← hc, ← hr] at HDn
          obtain ⟨tt, ht⟩ : ∃ t, t = grdn (fr x) k m := ⟨_, rfl⟩
          rw [← ht] at HOp HDn
          clear ht hc hr hg he hs
          go_wp2_with fail
          refine HO1.out.mono ?_
          rintro e w2 ⟨s5, p5, k5, c5, p6, k6, c6, rfl, hQ1, hB2⟩
          clear x0 x1 x2
          go_upto_region 6 with fail
          have hal := (Below.refl w2.heap.size w2).alloc (Nat.le_refl _) (.cells #[.bool s5, .slice p5 k5 c5, .slice p6 k6 c6] 53)
          have hVq := Var3.alloc w2 (x := .bool s5) (y := .slice p5 k5 c5) (z := .slice p6 k6 c6) 53 trivial trivial trivial
          have hst := held_any hB2 hal
          have HQ1 := hid (hQ1.out.below hal)
          replace HV := hid (And.intro (HV.out.1.below hst) (HV.out.2.trans (hst.mono HV.out.2.size)))
          clear hal hst hQ1 hB2 HO1 HX HVa
          generalize w2.alloc (.cells #[.bool s5, .slice p5 k5 c5, .slice p6 k6 c6] 53) = W5 at *
          generalize w2.heap.size = XQ at *
          have HVq := hid hVq
          clear hVq
          obtain ⟨a0, a1, a2, _⟩ := HVq.out.cells
          go_wp2_with fail
          refine (HSg.out _ _ HQ1.out).mono ?_
          rintro e w3 ⟨rfl, hst⟩
          clear a0 a1 a2
          replace HQ1 := hid (HQ1.out.below hst)
          replace HVq := hid (HVq.out.below hst)
          replace HV := hid (And.intro (HV.out.1.below hst) (HV.out.2.trans (hst.mono HV.out.2.size)))
          clear hst
          obtain ⟨a0, a1, a2, _⟩ := HVq.out.cells
          go_wp2_with fail
          refine (HOp.out _ _ HQ1.out).mono ?_
          rintro e w4 ⟨s7, p7, k7, c7, p8, k8, c8, rfl, hQ2, hB3⟩
          clear a0 a1 a2
          go_wp2_with fail
          refine (HDn.out _ _ hQ2.out).mono ?_
          rintro e w5 ⟨hB4, sg', pa, ka, ca, pb, kb, cb, rfl, HF⟩
          have hst := held_any hB3 hB4
          clear HOp HDn hB3 hB4
          replace HV := hid (And.intro (HV.out.1.below hst) (HV.out.2.trans (hst.mono HV.out.2.size)))
          clear hst
          obtain ⟨x0, x1, x2, y0, y1, y2⟩ := HV.out.1.cells
          go_wp2_with fail
          exact rGRootF_ret rfl rfl (HV.out.1.store trivial trivial trivial) ⟨below_set3 HV.out.2 (by omega), _, _, _, _, _, _, _, rfl, hid (HF.out.store3 HV.out.1 _ _ _)⟩
        · rw [hs] at hsg
          have hgg : gc = 5 := hg.trans (if_pos ⟨he, hs⟩)
          subst hgg
          rw [if_pos (by decide)] at hc
          subst hc
          have hrr : rt = (false, 0, 0) := hr.trans (if_neg (by decide))
          subst hrr
          clear hr hg he hs HOp HDn
          go_wp2_with fail
          refine HO1.out.mono ?_
          rintro e w2 ⟨s5, p5, k5, c5, p6, k6, c6, rfl, hQ1, hB2⟩
          clear x0 x1 x2
          go_upto_region 6 with fail
          have hal := (Below.refl w2.heap.size w2).alloc (Nat.le_refl _) (.cells #[.bool s5, .slice p5 k5 c5, .slice p6 k6 c6] 53)
          have hVq := Var3.alloc w2 (x := .bool s5) (y := .slice p5 k5 c5) (z := .slice p6 k6 c6) 53 trivial trivial trivial
          have hst := held_any hB2 hal
          have HQ1 := hid (hQ1.out.below hal)
          replace HV := hid (And.intro (HV.out.1.below hst) (HV.out.2.trans (hst.mono HV.out.2.size)))
          clear hal hst hQ1 hB2 HO1 HX HVa
          generalize w2.alloc (.cells #[.bool s5, .slice p5 k5 c5, .slice p6 k6 c6] 53) = W5 at *
          generalize w2.heap.size = XQ at *
          have HVq := hid hVq
          clear hVq
          obtain ⟨a0, a1, a2, _⟩ := HVq.out.cells
          go_wp2_with fail
          refine (HSg.out _ _ HQ1.out).mono ?_
          rintro e w3 ⟨rfl, hst⟩
          clear a0 a1 a2
          replace HQ1 := hid (HQ1.out.below hst)
          replace HVq := hid (HVq.out.below hst)
          replace HV := hid (And.intro (HV.out.1.below hst) (HV.out.2.trans (hst.mono HV.out.2.size)))
          clear hst
          obtain ⟨a0, a1, a2, _⟩ := HVq.out.cells
          clear a0 a1 a2
          obtain ⟨x0, x1, x2, y0, y1, y2⟩ := HV.out.1.cells
          go_wp2_with fail
          refine rGRootF_ret rfl rfl (HV.out.1.store trivial trivial trivial) ⟨below_set3 HV.out.2 (by omega), ?_⟩
          exact ⟨_, _, _, _, _, _, _, rfl, hid ⟨_, _, rfl, Rep.nil, Rep.nil⟩⟩
      · have ho1 : ((k : Int) % 2 == 0) = false := by simpa using he
        have ho2 : (Int.tmod (k : Int) 2 == 0) = false := by rw [Int.tmod_eq_emod_of_nonneg (by omega)]; exact ho1
        have hgg : gc = 0 := hg.trans (if_neg fun h => he h.1)
        subst hgg
        rw [if_neg (by decide)] at hc
        rw [← hc, ← hr] at HDn
        obtain ⟨tt, ht⟩ : ∃ t, t = grdn (fr x) k m := ⟨_, rfl⟩
        rw [← ht] at HOp HDn
        clear ht hc hr hg he hsg HSg
        go_wp2_with fail
        refine HO1.out.mono ?_
        rintro e w2 ⟨s5, p5, k5, c5, p6, k6, c6, rfl, hQ1, hB2⟩
        clear x0 x1 x2
        go_upto_region 6 with fail
        have hal := (Below.refl w2.heap.size w2).alloc (Nat.le_refl _) (.cells #[.bool s5, .slice p5 k5 c5, .slice p6 k6 c6] 53)
        have hVq := Var3.alloc w2 (x := .bool s5) (y := .slice p5 k5 c5) (z := .slice p6 k6 c6) 53 trivial trivial trivial
        have hst := held_any hB2 hal
        have HQ1 := hid (hQ1.out.below hal)
        replace HV := hid (And.intro (HV.out.1.below hst) (HV.out.2.trans (hst.mono HV.out.2.size)))
        clear hal hst hQ1 hB2 HO1 HX HVa
        generalize w2.alloc (.cells #[.bool s5, .slice p5 k5 c5, .slice p6 k6 c6] 53) = W5 at *
        generalize w2.heap.size = XQ at *
        have HVq := hid hVq
        clear hVq
        obtain ⟨a0, a1, a2, _⟩ := HVq.out.cells
        go_wp2_with fail
        refine (HOp.out _ _ HQ1.out).mono ?_
        rintro e w4 ⟨s7, p7, k7, c7, p8, k8, c8, rfl, hQ2, hB3⟩
        clear a0 a1 a2
        go_wp2_with fail
        refine (HDn.out _ _ hQ2.out).mono ?_
        rintro e w5 ⟨hB4, sg', pa, ka, ca, pb, kb, cb, rfl, HF⟩
        have hst := held_any hB3 hB4
        clear HOp HDn hB3 hB4
        replace HV := hid (And.intro (HV.out.1.below hst) (HV.out.2.trans (hst.mono HV.out.2.size)))
        clear hst
        obtain ⟨x0, x1, x2, y0, y1, y2⟩ := HV.out.1.cells
        go_wp2_with fail
        exact rGRootF_ret rfl rfl (HV.out.1.store trivial trivial trivial) ⟨below_set3 HV.out.2 (by omega), _, _, _, _, _, _, _, rfl, hid (HF.out.store3 HV.out.1 _ _ _)⟩

theorem rGRootT_ret {W : World} {B : Nat} {x y z ev : Value} {tm : Array Value} {R : Ending → World → Prop} (h2 : tm[8]?.getD undef = .pointer (some ⟨B, 0, none⟩)) (h3 : tm[9]?.getD undef = ev) (hV : Var3 W B x y z)
    (hR : R (.returned (.tuple #[.agg #[x, y, z], ev])) W) : bodyPost Tryz.prog Tryz.f8 R .ret { tmps := tm, defers := [] } W := by
  obtain ⟨c0, c1, c2, _, _, _⟩ := hV.cells
  exact bodyPost_ret (v := .tuple #[.agg #[x, y, z], ev]) (by simp [results, Tryz.results8, go_sem, h2, h3, c0, c1, c2]) rfl hR

set_option maxHeartbeats 16000000 in
set_option maxRecDepth 100000 in
theorem rGRootT_u (vx : Value) (x : Bool × Nat × Nat) (q p : Int) (w : World) (hx : NRep w vx x) :
    Calls Tryz.prog 8 #[vx, .int .i64 q, .int .i64 p, .bool true] w fun e w' => Below w.heap.size w w' ∧ URF w' e (ucode x.2.1 x.2.2 (gcode (fr x) q p) (grup (fr x) q.toNat p.toNat)) (resT (ucode x.2.1 x.2.2 (gcode (fr x) q p) (grup (fr x) q.toNat p.toNat)) (grup (fr x) q.toNat p.toNat)) := by
  have HX := hid hx
  obtain ⟨_, _, rfl, ⟨p1, k1, c1, rfl, _⟩, ⟨p2, k2, c2, rfl, _⟩⟩ := hx
  obtain ⟨s1, hsx⟩ : ∃ s, s = x.1 := ⟨_, rfl⟩
  rw [← hsx] at HX ⊢
  clear hsx
  obtain ⟨gc, hgc⟩ : ∃ c, c = gcode (fr x) q p := ⟨_, rfl⟩
  have HG : Hid (gc = if isIdx q = true ∧ inPrec p = true then (if q % 2 = 0 ∧ (fr x).1 = true then 5 else 0) else 2) := hid hgc
  rw [← hgc]
  obtain ⟨cc, hcc⟩ : ∃ c, c = ucode x.2.1 x.2.2 gc (grup (fr x) q.toNat p.toNat) := ⟨_, rfl⟩
  rw [← hcc]
  obtain ⟨rt, hrt⟩ : ∃ r, r = resT cc (grup (fr x) q.toNat p.toNat) := ⟨_, rfl⟩
  rw [← hrt]
  have HC := hid (And.intro hcc hrt)
  clear hcc hrt hgc
  go_enter Tryz.func8, Tryz.ntmps8
  go_upto_region 1 with fail
  have hVa := (Var3.alloc w (x := .bool s1) (y := .slice p1 k1 c1) (z := .slice p2 k2 c2) 24 trivial trivial trivial).below ((Below.refl _ _).alloc (Nat.le_refl _) (.cells #[.bool false, .slice none 0 0, .slice none 0 0] 24))
  have hVr := Var3.alloc2 w (.cells #[.bool s1, .slice p1 k1 c1, .slice p2 k2 c2] 24) (x := .bool false) (y := .slice none 0 0) (z := .slice none 0 0) 24 trivial trivial trivial
  have hB0 := below_alloc2 w (.cells #[.bool s1, .slice p1 k1 c1, .slice p2 k2 c2] 24) (.cells #[.bool false, .slice none 0 0, .slice none 0 0] 24)
  generalize (w.alloc (.cells #[.bool s1, .slice p1 k1 c1, .slice p2 k2 c2] 24)).alloc (.cells #[.bool false, .slice none 0 0, .slice none 0 0] 24) = W0 at *
  have HV := hid (And.intro hVr hB0)
  have HVa := hid hVa
  replace HX := hid (HX.out.below hB0)
  obtain ⟨x0, x1, x2, _⟩ := hVa.cells
  clear hVa hVr hB0
  go_wp2_with fail
  refine (Large_any _ x _ HX.out).mono ?_
  rintro e w1 ⟨rfl, hst⟩
  clear x0 x1 x2
  replace HX := hid (HX.out.below hst)
  replace HVa := hid (HVa.out.below hst)
  replace HV := hid (And.intro (HV.out.1.below hst) (HV.out.2.trans (hst.mono HV.out.2.size)))
  clear hst
  cases hl : large x.2.1 x.2.2
  case true =>
    have hc := HC.out.1
    rw [ucode_one hl] at hc
    subst hc
    have hr : rt = (false, 0, 0) := HC.out.2.trans (if_neg (by decide))
    subst hr
    clear hl HC HX HG
    obtain ⟨x0, x1, x2, y0, y1, y2⟩ := HV.out.1.cells
    go_wp2_with fail
    refine rGRootT_ret rfl rfl (HV.out.1.store trivial trivial trivial) ⟨below_set3 HV.out.2 (by omega), ?_⟩
    exact ⟨_, _, _, _, _, _, _, rfl, hid ⟨_, _, rfl, Rep.nil, Rep.nil⟩⟩
  case false =>
    have hc := HC.out.1
    have hr := HC.out.2
    rw [ucode_ok hl] at hc
    have hbx := fr_bd hl
    have hn : (fr x).2.1 < B16 ^ 128 := lt_W_B6 hbx.1 (Nat.le_refl _)
    have hd : (fr x).2.2 < B16 ^ 128 := lt_W_B6 hbx.2 (Nat.le_refl _)
    have h0 := (IsFr.fr x).pos
    have HO1 := hid (rOfF_any _ x w1 HX.out hl)
    by_cases hi : isIdx q = true ∧ inPrec p = true
    case neg =>
      have hg : gc = 2 := HG.out.trans (if_neg hi)
      subst hg
      rw [if_pos (by decide)] at hc
      subst hc
      have hrr : rt = (false, 0, 0) := hr.trans (if_neg (by decide))
      subst hrr
      have hor : q < 2 ∨ (¬ q < 2 ∧ 8 < q) ∨ (¬ q < 2 ∧ ¬ 8 < q ∧ p < 0) ∨ (¬ q < 2 ∧ ¬ 8 < q ∧ ¬ p < 0 ∧ 256 < p) := by
        unfold isIdx inPrec at hi
        rw [Bool.and_eq_true, Bool.and_eq_true, decide_eq_true_eq, decide_eq_true_eq, decide_eq_true_eq, decide_eq_true_eq] at hi
        omega
      clear hr hl HC HX HG hbx hn hd h0 HO1 hi
      obtain ⟨x0, x1, x2, y0, y1, y2⟩ := HV.out.1.cells
      rcases hor with o1 | ⟨o1, o2⟩ | ⟨o1, o2, o3⟩ | ⟨o1, o2, o3, o4⟩
      · have hd1 : decide (q < 2) = true := decide_eq_true o1
        go_wp2_with fail
        refine rGRootT_ret rfl rfl (HV.out.1.store trivial trivial trivial) ⟨below_set3 HV.out.2 (by omega), ?_⟩
        exact ⟨_, _, _, _, _, _, _, rfl, hid ⟨_, _, rfl, Rep.nil, Rep.nil⟩⟩
      · have hd1 : decide (q < 2) = false := decide_eq_false o1
        have hd2 : decide (8 < q) = true := decide_eq_true o2
        go_wp2_with fail
        refine rGRootT_ret rfl rfl (HV.out.1.store trivial trivial trivial) ⟨below_set3 HV.out.2 (by omega), ?_⟩
        exact ⟨_, _, _, _, _, _, _, rfl, hid ⟨_, _, rfl, Rep.nil, Rep.nil⟩⟩
      · have hd1 : decide (q < 2) = false := decide_eq_false o1
        have hd2 : decide (8 < q) = false := decide_eq_false o2
        have hd3 : decide (p < 0) = true := decide_eq_true o3
        go_wp2_with fail
        refine rGRootT_ret rfl rfl (HV.out.1.store trivial trivial trivial) ⟨below_set3 HV.out.2 (by omega), ?_⟩
        exact ⟨_, _, _, _, _, _, _, rfl, hid ⟨_, _, rfl, Rep.nil, Rep.nil⟩⟩
      · have hd1 : decide (q < 2) = false := decide_eq_false o1
        have hd2 : decide (8 < q) = false := decide_eq_false o2
        have hd3 : decide (p < 0) = false := decide_eq_false o3
        have hd4 : decide (256 < p) = true := decide_eq_true o4
        go_wp2_with fail
        refine rGRootT_ret rfl rfl (HV.out.1.store trivial trivial trivial) ⟨below_set3 HV.out.2 (by omega), ?_⟩
        exact ⟨_, _, _, _, _, _, _, rfl, hid ⟨_, _, rfl, Rep.nil, Rep.nil⟩⟩
    case pos =>
      have hg := HG.out.trans (if_pos hi)
      obtain ⟨k, m, rfl, rfl, h2, h8, hm⟩ : ∃ k m : Nat, q = k ∧ p = m ∧ 2 ≤ k ∧ k ≤ 8 ∧ m ≤ 256 := by
        obtain ⟨m, hm, hm2⟩ := inPrec_nat hi.2
        have h1 := hi.1
        unfold isIdx at h1
        rw [Bool.and_eq_true, decide_eq_true_eq, decide_eq_true_eq] at h1
        exact ⟨q.toNat, m, by omega, hm, by omega, by omega, hm2⟩
      rw [Int.toNat_natCast, Int.toNat_natCast] at hc hr
      have hd1 : decide ((k : Int) < 2) = false := decide_eq_false (by omega)
      have hd2 : decide (8 < (k : Int)) = false := decide_eq_false (by omega)
      have hd2' : decide (8 < k) = false := decide_eq_false (by omega)
      have hd1' : decide (k < 2) = false := decide_eq_false (by omega)
      have hd3 : decide ((m : Int) < 0) = false := decide_eq_false (by omega)
      have hd4 : decide (256 < (m : Int)) = false := decide_eq_false (by omega)
      have hd5 : decide (256 < m) = false := decide_eq_false (by omega)
      have HSg := hid (fun (W : World) (v : Value) (h : QNorm W v (fr x)) => Sgn_any v (fr x) W h (IsFr.fr x).zs)
      have hsg : decide (sgn (fr x).1 (fr x).2.1 < 0) = (fr x).1 := by
        have hz := (IsFr.fr x).zs
        unfold sgn
        cases h : (fr x).1
        · by_cases h0 : (fr x).2.1 = 0 <;> simp [h0]
        · have h0 : (fr x).2.1 ≠ 0 := fun h0 => by rw [hz h0] at h; exact absurd h (by decide)
          rw [if_neg h0]
          rfl
      obtain ⟨sg, hsgg⟩ : ∃ s, s = sgn (fr x).1 (fr x).2.1 := ⟨_, rfl⟩
      rw [← hsgg] at HSg hsg
      clear hsgg
      have HOp := hid (fun (W : World) (v1 : Value) (q1 : QNorm W v1 (fr x)) => qopen (t := grup (fr x) k m) (rAbove_any v1 (fr x) k m W q1 h0 hn hd h2 h8 hm))
      have HDn := hid (fun (W : World) (v : Value) (q : QNorm W v (grup (fr x) k m)) => Done_any v (grup (fr x) k m) W q (grup_fr (fr x) k m).pos (grup_fr (fr x) k m).zs)
      clear hl hbx hn hd h0 hi HC HG h2 h8 hm
      obtain ⟨x0, x1, x2, _⟩ := HVa.out.cells
      by_cases he : (k : Int) % 2 = 0
      · have ho1 : ((k : Int) % 2 == 0) = true := by rw [he]; rfl
        have ho2 : (Int.tmod (k : Int) 2 == 0) = true := by rw [Int.tmod_eq_emod_of_nonneg (by omega)]; exact ho1
        cases hs : (fr x).1
        · rw [hs] at hsg
          have hgg : gc = 0 := hg.trans (if_neg fun h => by rw [hs] at h; exact absurd h.2 (by decide))
          subst hgg
          rw [if_neg (by decide)] at hc
          rw [← hc, ← hr] at HDn
          obtain ⟨tt, ht⟩ : ∃ t, t = grup (fr x) k m := ⟨_, rfl⟩
          rw [← ht] at HOp HDn
          clear ht hc hr hg he hs
          go_wp2_with fail
          refine HO1.out.mono ?_
          rintro e w2 ⟨s5, p5, k5, c5, p6, k6, c6, rfl, hQ1, hB2⟩
          clear x0 x1 x2
          go_upto_region 6 with fail
          have hal := (Below.refl w2.heap.size w2).alloc (Nat.le_refl _) (.cells #[.bool s5, .slice p5 k5 c5, .slice p6 k6 c6] 53)
          have hVq := Var3.alloc w2 (x := .bool s5) (y := .slice p5 k5 c5) (z := .slice p6 k6 c6) 53 trivial trivial trivial
          have hst := held_any hB2 hal
          have HQ1 := hid (hQ1.out.below hal)
          replace HV := hid (And.intro (HV.out.1.below hst) (HV.out.2.trans (hst.mono HV.out.2.size)))
          clear hal hst hQ1 hB2 HO1 HX HVa
          generalize w2.alloc (.cells #[.bool s5, .slice p5 k5 c5, .slice p6 k6 c6] 53) = W5 at *
          generalize w2.heap.size = XQ at *
          have HVq := hid hVq
          clear hVq
          obtain ⟨a0, a1, a2, _⟩ := HVq.out.cells
          go_wp2_with fail
          refine (HSg.out _ _ HQ1.out).mono ?_
          rintro e w3 ⟨rfl, hst⟩
          clear a0 a1 a2
          replace HQ1 := hid (HQ1.out.below hst)
          replace HVq := hid (HVq.out.below hst)
          replace HV := hid (And.intro (HV.out.1.below hst) (HV.out.2.trans (hst.mono HV.out.2.size)))
          clear hst
          obtain ⟨a0, a1, a2, _⟩ := HVq.out.cells
          go_wp2_with fail
          refine (HOp.out _ _ HQ1.out).mono ?_
          rintro e w4 ⟨s7, p7, k7, c7, p8, k8, c8, rfl, hQ2, hB3⟩
          clear a0 a1 a2
          go_wp2_with fail
          refine (HDn.out _ _ hQ2.out).mono ?_
          rintro e w5 ⟨hB4, sg', pa, ka, ca, pb, kb, cb, rfl, HF⟩
          have hst := held_any hB3 hB4
          clear HOp HDn hB3 hB4
          replace HV := hid (And.intro (HV.out.1.below hst) (HV.out.2.trans (hst.mono HV.out.2.size)))
          clear hst
          obtain ⟨x0, x1, x2, y0, y1, y2⟩ := HV.out.1.cells
          go_wp2_with fail
          exact rGRootT_ret rfl rfl (HV.out.1.store trivial trivial trivial) ⟨below_set3 HV.out.2 (by omega), _, _, _, _, _, _, _, rfl, hid (HF.out.store3 HV.out.1 _ _ _)⟩
        · rw [hs] at hsg
          have hgg : gc = 5 := hg.trans (if_pos ⟨he, hs⟩)
          subst hgg
          rw [if_pos (by decide)] at hc
          subst hc
          have hrr : rt = (false, 0, 0) := hr.trans (if_neg (by decide))
          subst hrr
          clear hr hg he hs HOp HDn
          go_wp2_with fail
          refine HO1.out.mono ?_
          rintro e w2 ⟨s5, p5, k5, c5, p6, k6, c6, rfl, hQ1, hB2⟩
          clear x0 x1 x2
          go_upto_region 6 with fail
          have hal := (Below.refl w2.heap.size w2).alloc (Nat.le_refl _) (.cells #[.bool s5, .slice p5 k5 c5, .slice p6 k6 c6] 53)
          have hVq := Var3.alloc w2 (x := .bool s5) (y := .slice p5 k5 c5) (z := .slice p6 k6 c6) 53 trivial trivial trivial
          have hst := held_any hB2 hal
          have HQ1 := hid (hQ1.out.below hal)
          replace HV := hid (And.intro (HV.out.1.below hst) (HV.out.2.trans (hst.mono HV.out.2.size)))
          clear hal hst hQ1 hB2 HO1 HX HVa
          generalize w2.alloc (.cells #[.bool s5, .slice p5 k5 c5, .slice p6 k6 c6] 53) = W5 at *
          generalize w2.heap.size = XQ at *
          have HVq := hid hVq
          clear hVq
          obtain ⟨a0, a1, a2, _⟩ := HVq.out.cells
          go_wp2_with fail
          refine (HSg.out _ _ HQ1.out).mono ?_
          rintro e w3 ⟨rfl, hst⟩
          clear a0 a1 a2
          replace HQ1 := hid (HQ1.out.below hst)
          replace HVq := hid (HVq.out.below hst)
          replace HV := hid (And.intro (HV.out.1.below hst) (HV.out.2.trans (hst.mono HV.out.2.size)))
          clear hst
          obtain ⟨a0, a1, a2, _⟩ := HVq.out.cells
          clear a0 a1 a2
          obtain ⟨x0, x1, x2, y0, y1, y2⟩ := HV.out.1.cells
          go_wp2_with fail
          refine rGRootT_ret rfl rfl (HV.out.1.store trivial trivial trivial) ⟨below_set3 HV.out.2 (by omega), ?_⟩
          exact ⟨_, _, _, _, _, _, _, rfl, hid ⟨_, _, rfl, Rep.nil, Rep.nil⟩⟩
      · have ho1 : ((k : Int) % 2 == 0) = false := by simpa using he
        have ho2 : (Int.tmod (k : Int) 2 == 0) = false := by rw [Int.tmod_eq_emod_of_nonneg (by omega)]; exact ho1
        have hgg : gc = 0 := hg.trans (if_neg fun h => he h.1)
        subst hgg
        rw [if_neg (by decide)] at hc
        rw [← hc, ← hr] at HDn
        obtain ⟨tt, ht⟩ : ∃ t, t = grup (fr x) k m := ⟨_, rfl⟩
        rw [← ht] at HOp HDn
        clear ht hc hr hg he hsg HSg
        go_wp2_with fail
        refine HO1.out.mono ?_
        rintro e w2 ⟨s5, p5, k5, c5, p6, k6, c6, rfl, hQ1, hB2⟩
        clear x0 x1 x2
        go_upto_region 6 with fail
        have hal := (Below.refl w2.heap.size w2).alloc (Nat.le_refl _) (.cells #[.bool s5, .slice p5 k5 c5, .slice p6 k6 c6] 53)
        have hVq := Var3.alloc w2 (x := .bool s5) (y := .slice p5 k5 c5) (z := .slice p6 k6 c6) 53 trivial trivial trivial
        have hst := held_any hB2 hal
        have HQ1 := hid (hQ1.out.below hal)
        replace HV := hid (And.intro (HV.out.1.below hst) (HV.out.2.trans (hst.mono HV.out.2.size)))
        clear hal hst hQ1 hB2 HO1 HX HVa
        generalize w2.alloc (.cells #[.bool s5, .slice p5 k5 c5, .slice p6 k6 c6] 53) = W5 at *
        generalize w2.heap.size = XQ at *
        have HVq := hid hVq
        clear hVq
        obtain ⟨a0, a1, a2, _⟩ := HVq.out.cells
        go_wp2_with fail
        refine (HOp.out _ _ HQ1.out).mono ?_
        rintro e w4 ⟨s7, p7, k7, c7, p8, k8, c8, rfl, hQ2, hB3⟩
        clear a0 a1 a2
        go_wp2_with fail
        refine (HDn.out _ _ hQ2.out).mono ?_
        rintro e w5 ⟨hB4, sg', pa, ka, ca, pb, kb, cb, rfl, HF⟩
        have hst := held_any hB3 hB4
        clear HOp HDn hB3 hB4
        replace HV := hid (And.intro (HV.out.1.below hst) (HV.out.2.trans (hst.mono HV.out.2.size)))
        clear hst
        obtain ⟨x0, x1, x2, y0, y1, y2⟩ := HV.out.1.cells
        go_wp2_with fail
        exact rGRootT_ret rfl rfl (HV.out.1.store trivial trivial trivial) ⟨below_set3 HV.out.2 (by omega), _, _, _, _, _, _, _, rfl, hid (HF.out.store3 HV.out.1 _ _ _)⟩
end Go.Proofs.YtjnfnngobkjneaaGreatDoor
