/- Root of the reference, equal to the program's. The law IntervalRoots. -/
import Derived.Test.YtheojajaefjecaaGreatDoorRooM
import Derived.Test.YtheojajaefjecaaGreatDoorRooJ
import Derived.Test.YtheojajaefjecaaGreatDoorGrtU
import Derived.Test.YtheojajaefjecaaGreatDoorAwake
namespace Go.Proofs.YtheojajaefjecaaGreatDoor
open Go.RowKit Dg
theorem b200_G {x : Nat} (h : x < B16 ^ 200) : x < B16 ^ 1000000000 := by
 generalize hA : 200 = A at *
 generalize hB : 1000000000 = B at *
 exact Nat.lt_of_lt_of_le h (Nat.pow_le_pow_right B16_pos (by omega))
theorem jroot_bd {r : (Bool × Nat × Nat) × (Bool × Nat × Nat) × Bool × Bool × Bool} (h : JGood r) {n p : Nat} (h2 : 2 ≤ n) (h8 : n ≤ 8) (hp : p ≤ 256) : JBd (jroot r n p) := by
 rcases h with rfl | ⟨he, hl, hh, _⟩
 ·exact ⟨⟨b16_0, b16_0⟩, b16_0, b16_0⟩
 ·unfold jroot
  rw [he]
  refine ⟨?_, ?_⟩
  ·rcases hl with ⟨h1, h2'⟩ | ⟨h1, h2'⟩
   ·show (if r.2.2.1 then r.1 else grdn r.1 n p).2.1 < _ ∧ (if r.2.2.1 then r.1 else grdn r.1 n p).2.2 < _
    rw [h1, h2']; exact ⟨b16_0, b16_0⟩
   ·show (if r.2.2.1 then r.1 else grdn r.1 n p).2.1 < _ ∧ (if r.2.2.1 then r.1 else grdn r.1 n p).2.2 < _
    rw [h1]
    have := grdn_b (t := r.1) (p := p) (lt_W_B6 h2'.2.1 (by omega)) h2 h8 hp
    exact ⟨b200_G this.1, b200_G this.2⟩
  ·rcases hh with ⟨h1, h2'⟩ | ⟨h1, h2'⟩
   ·show (if r.2.2.2.1 then r.2.1 else grup r.2.1 n p).2.1 < _ ∧ (if r.2.2.2.1 then r.2.1 else grup r.2.1 n p).2.2 < _
    rw [h1, h2']; exact ⟨b16_0, b16_0⟩
   ·show (if r.2.2.2.1 then r.2.1 else grup r.2.1 n p).2.1 < _ ∧ (if r.2.2.2.1 then r.2.1 else grup r.2.1 n p).2.2 < _
    rw [h1]
    have := grup_b (t := r.2.1) (p := p) (lt_W_B6 h2'.2.1 (by omega)) h2 h8 hp
    exact ⟨b200_G this.1, b200_G this.2⟩
theorem tmod_even (n : Nat) : (Int.tmod (n : Int) 2 == 0) = decide (n % 2 = 0) := by
 have h : Int.tmod (n : Int) 2 = ((n % 2 : Nat) : Int) := by rw [Int.tmod_eq_emod_of_nonneg (by omega)]; omega
 rw [h]
 have : n % 2 = 0 ∨ n % 2 = 1 := by omega
 rcases this with h | h <;> rw [h] <;> rfl
theorem jbelow_q {t : Bool × Nat × Nat} (q : QFit t) {nn pr : Nat} (g2 : 2 ≤ nn) (g8 : nn ≤ 8) (kp : pr ≤ 256) : Hid (∀ W (s2 : Bool) (p2 : Option Addr) (k2 c2 : Nat) (q2 : Option Addr) (l2 d2 : Nat), QNorm W (.agg #[.bool s2, .slice p2 k2 c2, .slice q2 l2 d2]) t → Calls Tryz.prog 66 #[.agg #[.bool s2, .slice p2 k2 c2, .slice q2 l2 d2], .int .i64 (nn : Int), .int .i64 (pr : Int)] W fun e w' => ∃ s4 p4 k4 c4 q4 l4 d4, e = .returned (.agg #[.bool s4, .slice p4 k4 c4, .slice q4 l4 d4]) ∧ Hid (QNorm w' (.agg #[.bool s4, .slice p4 k4 c4, .slice q4 l4 d4]) (grdn t nn pr)) ∧ Below W.heap.size W w') :=
 hid fun W s2 p2 k2 c2 q2 l2 d2 h => qopen (t := grdn t nn pr) (rBelow_any _ t nn pr W h q.1.pos (lt_W_B6 q.2.1 (by omega)) (lt_W_B6 q.2.2 (by omega)) g2 g8 kp)
theorem jabove_q {t : Bool × Nat × Nat} (q : QFit t) {nn pr : Nat} (g2 : 2 ≤ nn) (g8 : nn ≤ 8) (kp : pr ≤ 256) : Hid (∀ W (s2 : Bool) (p2 : Option Addr) (k2 c2 : Nat) (q2 : Option Addr) (l2 d2 : Nat), QNorm W (.agg #[.bool s2, .slice p2 k2 c2, .slice q2 l2 d2]) t → Calls Tryz.prog 67 #[.agg #[.bool s2, .slice p2 k2 c2, .slice q2 l2 d2], .int .i64 (nn : Int), .int .i64 (pr : Int)] W fun e w' => ∃ s4 p4 k4 c4 q4 l4 d4, e = .returned (.agg #[.bool s4, .slice p4 k4 c4, .slice q4 l4 d4]) ∧ Hid (QNorm w' (.agg #[.bool s4, .slice p4 k4 c4, .slice q4 l4 d4]) (grup t nn pr)) ∧ Below W.heap.size W w') :=
 hid fun W s2 p2 k2 c2 q2 l2 d2 h => qopen (t := grup t nn pr) (rAbove_any _ t nn pr W h q.1.pos (lt_W_B6 q.2.1 (by omega)) (lt_W_B6 q.2.2 (by omega)) g2 g8 kp)
theorem jRoot_set (s1 : Bool) (p1 : Option Addr) (k1 c1 : Nat) (q1 : Option Addr) (l1 d1 : Nat) (sz1 : Bool) (pz1 : Option Addr) (kz1 cz1 : Nat) (qz1 : Option Addr) (lz1 dz1 : Nat) (x1 : Bool) (y1 : Bool) (a b : Bool × Nat × Nat) (nn pr : Nat) (w : World) (ha : NRep w (.agg #[.bool s1, .slice p1 k1 c1, .slice q1 l1 d1]) a) (hb : NRep w (.agg #[.bool sz1, .slice pz1 kz1 cz1, .slice qz1 lz1 dz1]) b) (h1 : large a.2.1 a.2.2 = false) (h2 : large b.2.1 b.2.2 = false) (g2 : 2 ≤ nn) (g8 : nn ≤ 8) (kp : pr ≤ 128) (he : (srd (a, b, x1, y1)).2.2 = false) :
  (rdom (srd (a, b, x1, y1)) nn = true → Calls Tryz.prog 23 #[.agg #[.bool s1, .slice p1 k1 c1, .slice q1 l1 d1, .bool sz1, .slice pz1 kz1 cz1, .slice qz1 lz1 dz1, .bool x1, .bool y1], .int .i64 (nn : Int), .int .i64 (pr : Int)] w fun e w' => ∃ s5 p5 k5 c5 q5 l5 d5 sz5 pz5 kz5 cz5 qz5 lz5 dz5 x5 y5, e = .returned (.tuple #[.agg #[.bool s5, .slice p5 k5 c5, .slice q5 l5 d5, .bool sz5, .slice pz5 kz5 cz5, .slice qz5 lz5 dz5, .bool x5, .bool y5], .int .i64 5]) ∧ Hid (GRep w' (.agg #[.bool s5, .slice p5 k5 c5, .slice q5 l5 d5, .bool sz5, .slice pz5 kz5 cz5, .slice qz5 lz5 dz5, .bool x5, .bool y5]) gzero) ∧ Below w.heap.size w w') ∧
  (rdom (srd (a, b, x1, y1)) nn = false → Calls Tryz.prog 23 #[.agg #[.bool s1, .slice p1 k1 c1, .slice q1 l1 d1, .bool sz1, .slice pz1 kz1 cz1, .slice qz1 lz1 dz1, .bool x1, .bool y1], .int .i64 (nn : Int), .int .i64 (pr : Int)] w fun e w' => ∃ s5 p5 k5 c5 q5 l5 d5 sz5 pz5 kz5 cz5 qz5 lz5 dz5 x5 y5, e = .returned (.tuple #[.agg #[.bool s5, .slice p5 k5 c5, .slice q5 l5 d5, .bool sz5, .slice pz5 kz5 cz5, .slice qz5 lz5 dz5, .bool x5, .bool y5], .int .i64 (if jbig (jroot (jof (a, b, x1, y1)) nn pr) then 1 else 0)]) ∧ Hid (GRep w' (.agg #[.bool s5, .slice p5 k5 c5, .slice q5 l5 d5, .bool sz5, .slice pz5 kz5 cz5, .slice qz5 lz5 dz5, .bool x5, .bool y5]) (if jbig (jroot (jof (a, b, x1, y1)) nn pr) then gzero else japi (jroot (jof (a, b, x1, y1)) nn pr))) ∧ Below w.heap.size w w') := by
 have HO := hid (fun (W : World) (hW : Below w.heap.size w W) => jOne_ok s1 p1 k1 c1 q1 l1 d1 sz1 pz1 kz1 cz1 qz1 lz1 dz1 x1 y1 a b (pr : Int) W (ha.below hW) (hb.below hW) h1 h2 (by omega) (by omega))
 have HD := hid (fun (W : World) (s2 : Bool) (p2 : Option Addr) (k2 c2 : Nat) (q2 : Option Addr) (l2 d2 : Nat) (sz2 : Bool) (pz2 : Option Addr) (kz2 cz2 : Nat) (qz2 : Option Addr) (lz2 dz2 : Nat) (x2 : Bool) (y2 : Bool) (e2 : Bool) (h : JRep W (.agg #[.bool s2, .slice p2 k2 c2, .slice q2 l2 d2, .bool sz2, .slice pz2 kz2 cz2, .slice qz2 lz2 dz2, .bool x2, .bool y2, .bool e2]) (jroot (jof (a, b, x1, y1)) nn pr)) => jDone_any s2 p2 k2 c2 q2 l2 d2 sz2 pz2 kz2 cz2 qz2 lz2 dz2 x2 y2 e2 _ W h (jroot_bd (JGood.of (x := x1) (y := y1) h1 h2) g2 g8 (by omega)))
 have hr := jof_in he
 have qa := QFit.of h1
 have qb := QFit.of h2
 have n1 : decide ((nn : Int) < 2) = false := decide_eq_false (by omega)
 have n2 : decide ((8 : Int) < (nn : Int)) = false := decide_eq_false (by omega)
 have ne := tmod_even nn
 have hJ : jroot (jof (a, b, x1, y1)) nn pr = (if x1 then (false, 0, 0) else grdn (fr a) nn pr, if y1 then (false, 0, 0) else grup (fr b) nn pr, x1, y1, false) := by
  rw [hr]
  cases x1 <;> cases y1 <;> rfl
 rw [hJ] at HD ⊢
 unfold rdom
 have HG : Hid (∀ W (s2 : Bool) (p2 : Option Addr) (k2 c2 : Nat) (q2 : Option Addr) (l2 d2 : Nat), QNorm W (.agg #[.bool s2, .slice p2 k2 c2, .slice q2 l2 d2]) (fr a) → Calls Tryz.prog 65 #[.agg #[.bool s2, .slice p2 k2 c2, .slice q2 l2 d2]] W fun e w' => e = .returned (.int .i64 (sgn (fr a).1 (fr a).2.1)) ∧ Below W.heap.size W w') := hid fun W s2 p2 k2 c2 q2 l2 d2 h => Sgn_any _ _ W h qa.1.zs
 by_cases ho : nn % 2 = 0
 ·rw [decide_eq_true ho] at ne
  rw [decide_eq_true ho, Bool.true_and]
  cases x1
  ·have es : esgn (srd (a, b, false, y1)).1 = sgn (fr a).1 (fr a).2.1 := rfl
   rw [es]
   constructor
   ·intro hg
    exact jRoot_ef_dom _ _ _ _ _ _ _ _ _ _ _ _ _ _ _ _ (nn : Int) (pr : Int) (fr a) _ y1 _ w hr n1 n2 ne HO _ HG hg
   ·intro hg
    cases y1
    ·exact jRoot_eff _ _ _ _ _ _ _ _ _ _ _ _ _ _ _ _ (nn : Int) (pr : Int) (fr a) (fr b) _ (grdn (fr a) nn pr) (grup (fr b) nn pr) _ _ w hr n1 n2 ne HO _ HG hg (jbelow_q qa g2 g8 (by omega)) (jabove_q qb g2 g8 (by omega)) HD
    ·exact jRoot_eft _ _ _ _ _ _ _ _ _ _ _ _ _ _ _ _ (nn : Int) (pr : Int) (fr a) (false, 0, 0) _ (grdn (fr a) nn pr) _ _ w hr n1 n2 ne HO _ HG hg (jbelow_q qa g2 g8 (by omega)) HD
  ·constructor
   ·intro _
    exact jRoot_et_dom _ _ _ _ _ _ _ _ _ _ _ _ _ _ _ _ (nn : Int) (pr : Int) _ _ y1 _ w hr n1 n2 ne HO
   ·intro hg
    have hg : decide ((-1 : Int) < 0) = false := hg
    exact absurd hg (by decide)
 ·rw [decide_eq_false ho] at ne
  rw [decide_eq_false ho, Bool.false_and]
  constructor
  ·intro hg
   exact absurd hg (by decide)
  ·intro _
   cases x1 <;> cases y1
   ·exact jRoot_off _ _ _ _ _ _ _ _ _ _ _ _ _ _ _ _ (nn : Int) (pr : Int) (fr a) (fr b) _ (grdn (fr a) nn pr) (grup (fr b) nn pr) _ _ w hr n1 n2 ne HO (jbelow_q qa g2 g8 (by omega)) (jabove_q qb g2 g8 (by omega)) HD
   ·exact jRoot_oft _ _ _ _ _ _ _ _ _ _ _ _ _ _ _ _ (nn : Int) (pr : Int) (fr a) (false, 0, 0) _ (grdn (fr a) nn pr) _ _ w hr n1 n2 ne HO (jbelow_q qa g2 g8 (by omega)) HD
   ·exact jRoot_otf _ _ _ _ _ _ _ _ _ _ _ _ _ _ _ _ (nn : Int) (pr : Int) (false, 0, 0) (fr b) _ (grup (fr b) nn pr) _ _ w hr n1 n2 ne HO (jabove_q qb g2 g8 (by omega)) HD
   ·exact jRoot_ott _ _ _ _ _ _ _ _ _ _ _ _ _ _ _ _ (nn : Int) (pr : Int) (false, 0, 0) (false, 0, 0) _ _ _ w hr n1 n2 ne HO HD
theorem jRoot_any (s1 : Bool) (p1 : Option Addr) (k1 c1 : Nat) (q1 : Option Addr) (l1 d1 : Nat) (sz1 : Bool) (pz1 : Option Addr) (kz1 cz1 : Nat) (qz1 : Option Addr) (lz1 dz1 : Nat) (x1 : Bool) (y1 : Bool) (a b : Bool × Nat × Nat) (n p : Int) (w : World) (ha : NRep w (.agg #[.bool s1, .slice p1 k1 c1, .slice q1 l1 d1]) a) (hb : NRep w (.agg #[.bool sz1, .slice pz1 kz1 cz1, .slice qz1 lz1 dz1]) b) :
  Calls Tryz.prog 23 #[.agg #[.bool s1, .slice p1 k1 c1, .slice q1 l1 d1, .bool sz1, .slice pz1 kz1 cz1, .slice qz1 lz1 dz1, .bool x1, .bool y1], .int .i64 n, .int .i64 p] w fun e w' => ∃ s5 p5 k5 c5 q5 l5 d5 sz5 pz5 kz5 cz5 qz5 lz5 dz5 x5 y5, e = .returned (.tuple #[.agg #[.bool s5, .slice p5 k5 c5, .slice q5 l5 d5, .bool sz5, .slice pz5 kz5 cz5, .slice qz5 lz5 dz5, .bool x5, .bool y5], .int .i64 (kcode (rvalid n p) (fun x => rdom x n.toNat) 5 (srt n p) (a, b, x1, y1))]) ∧ Hid (GRep w' (.agg #[.bool s5, .slice p5 k5 c5, .slice q5 l5 d5, .bool sz5, .slice pz5 kz5 cz5, .slice qz5 lz5 dz5, .bool x5, .bool y5]) (kval (rvalid n p) (fun x => rdom x n.toNat) (srt n p) (a, b, x1, y1))) ∧ Below w.heap.size w w' := by
 unfold kcode kval ocode oval kon
 cases hL : (large a.2.1 a.2.2 || large b.2.1 b.2.2)
 ·have hla : ilarge (a, b, x1, y1) = false := hL
  rw [Bool.or_eq_false_iff] at hL
  rw [hla]
  cases hp : prec p
  ·have hv : rvalid n p = false := by unfold rvalid; rw [hp]; rfl
   rw [hv]
   exact jRoot_err s1 p1 k1 c1 q1 l1 d1 sz1 pz1 kz1 cz1 qz1 lz1 dz1 x1 y1 n p 2 w (by decide) (hid fun W hW => jOne_arg s1 p1 k1 c1 q1 l1 d1 sz1 pz1 kz1 cz1 qz1 lz1 dz1 x1 y1 a b p W (ha.below hW) (hb.below hW) hL.1 hL.2 hp)
  ·have hp0 := hp
   unfold prec at hp
   rw [Bool.and_eq_true, decide_eq_true_eq, decide_eq_true_eq] at hp
   obtain ⟨pr, rfl⟩ := Int.eq_ofNat_of_zero_le hp.1
   have kp : pr ≤ 128 := by omega
   have HO := hid (fun (W : World) (hW : Below w.heap.size w W) => jOne_ok s1 p1 k1 c1 q1 l1 d1 sz1 pz1 kz1 cz1 qz1 lz1 dz1 x1 y1 a b (pr : Int) W (ha.below hW) (hb.below hW) hL.1 hL.2 (by omega) (by omega))
   have er : ∃ ta tb x y ee, jof (a, b, x1, y1) = (ta, tb, x, y, ee) := ⟨_, _, _, _, _, rfl⟩
   obtain ⟨ta, tb, x, y, ee, er⟩ := er
   by_cases hn2 : 2 ≤ n
   ·by_cases hn8 : n ≤ 8
    ·have hv : rvalid n (pr : Int) = true := by unfold rvalid; rw [hp0, decide_eq_true hn2, decide_eq_true hn8]; rfl
     rw [hv]
     obtain ⟨nn, rfl⟩ := Int.eq_ofNat_of_zero_le (show 0 ≤ n by omega)
     have g2 : 2 ≤ nn := by omega
     have g8 : nn ≤ 8 := by omega
     cases he : (srd (a, b, x1, y1)).2.2
     ·have key := jRoot_set s1 p1 k1 c1 q1 l1 d1 sz1 pz1 kz1 cz1 qz1 lz1 dz1 x1 y1 a b nn pr w ha hb hL.1 hL.2 g2 g8 kp he
      show Calls _ _ _ _ fun e w' => ∃ s5 p5 k5 c5 q5 l5 d5 sz5 pz5 kz5 cz5 qz5 lz5 dz5 x5 y5, e = .returned (.tuple #[.agg #[.bool s5, .slice p5 k5 c5, .slice q5 l5 d5, .bool sz5, .slice pz5 kz5 cz5, .slice qz5 lz5 dz5, .bool x5, .bool y5], .int .i64 (if rdom (srd (a, b, x1, y1)) nn then 5 else if sbig (sroot (srd (a, b, x1, y1)) nn pr) then 1 else 0)]) ∧ Hid (GRep w' (.agg #[.bool s5, .slice p5 k5 c5, .slice q5 l5 d5, .bool sz5, .slice pz5 kz5 cz5, .slice qz5 lz5 dz5, .bool x5, .bool y5]) (if rdom (srd (a, b, x1, y1)) nn then gzero else if sbig (sroot (srd (a, b, x1, y1)) nn pr) then gzero else giv (sroot (srd (a, b, x1, y1)) nn pr))) ∧ Below w.heap.size w w'
      cases hd : rdom (srd (a, b, x1, y1)) nn
      ·have k := key.2 hd
       have hs := root_same (x := x1) (y := y1) nn pr he
       rw [hs.1, hs.2] at k
       exact k
      ·exact key.1 hd
     ·have ho : jof (a, b, x1, y1) = ((false, 0, 0), (false, 0, 0), false, false, true) := jof_out he
      refine (jRoot_none s1 p1 k1 c1 q1 l1 d1 sz1 pz1 kz1 cz1 qz1 lz1 dz1 x1 y1 (nn : Int) (pr : Int) _ _ _ _ _ (giv (srd (a, b, x1, y1))) w ho (decide_eq_false (by omega)) (decide_eq_false (by omega)) HO (hid fun W s2 p2 k2 c2 q2 l2 d2 sz2 pz2 kz2 cz2 qz2 lz2 dz2 x2 y2 e2 hJ => ?_))
      rw [giv_srd hL.1 hL.2]
      exact jApi_any s2 p2 k2 c2 q2 l2 d2 sz2 pz2 kz2 cz2 qz2 lz2 dz2 x2 y2 e2 _ W hJ (by rw [ho]; exact ⟨⟨b16_0, b16_0⟩, b16_0, b16_0⟩)
    ·have hv : rvalid n (pr : Int) = false := by unfold rvalid; rw [decide_eq_false hn8, Bool.and_false]
     rw [hv]
     exact jRoot_arg_hi s1 p1 k1 c1 q1 l1 d1 sz1 pz1 kz1 cz1 qz1 lz1 dz1 x1 y1 n (pr : Int) ta tb x y ee _ w er (decide_eq_false (by omega)) (decide_eq_true (by omega)) HO
   ·have hv : rvalid n (pr : Int) = false := by unfold rvalid; rw [decide_eq_false hn2, Bool.and_false, Bool.false_and]
    rw [hv]
    exact jRoot_arg_lo s1 p1 k1 c1 q1 l1 d1 sz1 pz1 kz1 cz1 qz1 lz1 dz1 x1 y1 n (pr : Int) ta tb x y ee _ w er (decide_eq_true (by omega)) HO
 ·have hla : ilarge (a, b, x1, y1) = true := hL
  rw [hla]
  exact jRoot_err s1 p1 k1 c1 q1 l1 d1 sz1 pz1 kz1 cz1 qz1 lz1 dz1 x1 y1 n p 1 w (by decide) (hid fun W hW => jOne_large s1 p1 k1 c1 q1 l1 d1 sz1 pz1 kz1 cz1 qz1 lz1 dz1 x1 y1 a b p W (ha.below hW) (hb.below hW) hla)
end Go.Proofs.YtheojajaefjecaaGreatDoor

namespace Go.Proofs.YtheojajaefjecaaGreatDoor
open Go.RowKit Dg
set_option maxHeartbeats 8000000 in
set_option maxRecDepth 100000 in
theorem IntervalRoots_iv (s1 : Bool) (p1 : Option Addr) (k1 c1 : Nat) (q1 : Option Addr) (l1 d1 : Nat) (sz1 : Bool) (pz1 : Option Addr) (kz1 cz1 : Nat) (qz1 : Option Addr) (lz1 dz1 : Nat) (x1 : Bool) (y1 : Bool) (n p : Int) (a b : Bool × Nat × Nat) (w : World) (ha : NRep w (.agg #[.bool s1, .slice p1 k1 c1, .slice q1 l1 d1]) a) (hb : NRep w (.agg #[.bool sz1, .slice pz1 kz1 cz1, .slice qz1 lz1 dz1]) b) (ht : TabOk w) :
  Calls Tryz.prog 6 #[.agg #[.bool s1, .slice p1 k1 c1, .slice q1 l1 d1, .bool sz1, .slice pz1 kz1 cz1, .slice qz1 lz1 dz1, .bool x1, .bool y1], .int .i64 n, .int .i64 p] w fun e w' => e = .returned (.bool true) ∧ Below w.heap.size w w' := by
 have HP0 := hid (fun (W : World) (hW : Below w.heap.size w W) => iRoot_any s1 p1 k1 c1 q1 l1 d1 sz1 pz1 kz1 cz1 qz1 lz1 dz1 x1 y1 a b n p W (ha.below hW) (hb.below hW) (ht.below hW))
 have HR0 := hid (fun (W : World) (hW : Below w.heap.size w W) => jRoot_any s1 p1 k1 c1 q1 l1 d1 sz1 pz1 kz1 cz1 qz1 lz1 dz1 x1 y1 a b n p W (ha.below hW) (hb.below hW))
 have HI0 := hid (fun (W : World) (s5 : Bool) (p5 : Option Addr) (k5 c5 : Nat) (q5 : Option Addr) (l5 d5 : Nat) (sz5 : Bool) (pz5 : Option Addr) (kz5 cz5 : Nat) (qz5 : Option Addr) (lz5 dz5 : Nat) (x5 : Bool) (y5 : Bool) (s6 : Bool) (p6 : Option Addr) (k6 c6 : Nat) (q6 : Option Addr) (l6 d6 : Nat) (sz6 : Bool) (pz6 : Option Addr) (kz6 cz6 : Nat) (qz6 : Option Addr) (lz6 dz6 : Nat) (x6 : Bool) (y6 : Bool) (h : GRep W (.agg #[.bool s5, .slice p5 k5 c5, .slice q5 l5 d5, .bool sz5, .slice pz5 kz5 cz5, .slice qz5 lz5 dz5, .bool x5, .bool y5]) (kval (rvalid n p) (fun x => rdom x n.toNat) (srt n p) (a, b, x1, y1))) (h' : GRep W (.agg #[.bool s6, .slice p6 k6 c6, .slice q6 l6 d6, .bool sz6, .slice pz6 kz6 cz6, .slice qz6 lz6 dz6, .bool x6, .bool y6]) (kval (rvalid n p) (fun x => rdom x n.toNat) (srt n p) (a, b, x1, y1))) => is3_any s5 p5 k5 c5 q5 l5 d5 sz5 pz5 kz5 cz5 qz5 lz5 dz5 x5 y5 s6 p6 k6 c6 q6 l6 d6 sz6 pz6 kz6 cz6 qz6 lz6 dz6 x6 y6 (kcode (rvalid n p) (fun x => rdom x n.toNat) 5 (srt n p) (a, b, x1, y1)) _ W (rt_ok a b x1 y1 n p) (kval_err _ _ _ _ a b x1 y1) h h')
 have HA := hid (fun (W : World) (hW : Below w.heap.size w W) => awake3_any W (ht.below hW))
 clear ha hb ht
 obtain ⟨c0, hc0⟩ : ∃ r, r = kcode (rvalid n p) (fun x => rdom x n.toNat) 5 (srt n p) (a, b, x1, y1) := ⟨_, rfl⟩
 obtain ⟨D0, hD0⟩ : ∃ r, r = kval (rvalid n p) (fun x => rdom x n.toNat) (srt n p) (a, b, x1, y1) := ⟨_, rfl⟩
 rw [← hc0, ← hD0] at HP0 HR0 HI0
 clear hc0 hD0
 go_enter Tryz.func6, Tryz.ntmps6
 go_wp2_with fail
 generalize hA : World.alloc _ _ = W0
 have HV := hid (pre1_o hA nd8)
 clear hA
 have HB0 := hid (HV.out.2)
 have Hx0 := hid (HV.out.1)
 clear HV
 refine (HP0.out _ (HB0.out)).mono ?_
 rintro e w11 ⟨s11, p11, k11, c11, q11, l11, d11, sz11, pz11, kz11, cz11, qz11, lz11, dz11, x11, y11, rfl, hG11, hB11⟩
 have Hs1_x0 := hid ((Hx0.out).below hB11)
 have HB1 := hid ((HB0.out).trans ((hB11).mono (HB0.out).size))
 go_upto_region 2 with fail
 have HX11 := hid (pre1 w11 [.bool s11, .slice p11 k11 c11, .slice q11 l11 d11, .bool sz11, .slice pz11 kz11 cz11, .slice qz11 lz11 dz11, .bool x11, .bool y11] 26 nd8)
 have hlt11_x0 := (Hs1_x0.out).lt
 generalize w11.alloc (.cells #[.bool s11, .slice p11 k11 c11, .slice q11 l11 d11, .bool sz11, .slice pz11 kz11 cz11, .slice qz11 lz11 dz11, .bool x11, .bool y11] 26) = W11 at *
 have Hs2_x0 := hid ((Hs1_x0.out).below HX11.out.2)
 have Hs2_g11 := hid ((hG11.out).below HX11.out.2)
 have HB2 := hid ((HB1.out).trans ((HX11.out.2).mono (HB1.out).size))
 have Hb11 := hid HX11.out.1
 obtain ⟨m0_0, m0_1, m0_2, m0_3, m0_4, m0_5, m0_6, m0_7, _⟩ := (Hs2_x0.out).cells8
 obtain ⟨m1_0, m1_1, m1_2, m1_3, m1_4, m1_5, m1_6, m1_7, _⟩ := (Hb11.out).cells8
 go_wp2_with fail
 refine (HR0.out _ (HB2.out)).mono ?_
 rintro e w12 ⟨s12, p12, k12, c12, q12, l12, d12, sz12, pz12, kz12, cz12, qz12, lz12, dz12, x12, y12, rfl, hG12, hB12⟩
 clear m0_0 m0_1 m0_2 m0_3 m0_4 m0_5 m0_6 m0_7 m1_0 m1_1 m1_2 m1_3 m1_4 m1_5 m1_6 m1_7
 have Hs3_x0 := hid ((Hs2_x0.out).below hB12)
 have Hs3_g11 := hid ((Hs2_g11.out).below hB12)
 have Hs3_b11 := hid ((Hb11.out).below hB12)
 have HB3 := hid ((HB2.out).trans ((hB12).mono (HB2.out).size))
 go_upto_region 3 with fail
 have HX12 := hid (pre1 w12 [.bool s12, .slice p12 k12 c12, .slice q12 l12 d12, .bool sz12, .slice pz12 kz12 cz12, .slice qz12 lz12 dz12, .bool x12, .bool y12] 26 nd8)
 have hlt12_x0 := (Hs3_x0.out).lt
 have hlt12_b11 := (Hs3_b11.out).lt
 generalize w12.alloc (.cells #[.bool s12, .slice p12 k12 c12, .slice q12 l12 d12, .bool sz12, .slice pz12 kz12 cz12, .slice qz12 lz12 dz12, .bool x12, .bool y12] 26) = W12 at *
 have Hs4_x0 := hid ((Hs3_x0.out).below HX12.out.2)
 have Hs4_g11 := hid ((Hs3_g11.out).below HX12.out.2)
 have Hs4_b11 := hid ((Hs3_b11.out).below HX12.out.2)
 have Hs4_g12 := hid ((hG12.out).below HX12.out.2)
 have HB4 := hid ((HB3.out).trans ((HX12.out.2).mono (HB3.out).size))
 have Hb12 := hid HX12.out.1
 obtain ⟨m0_0, m0_1, m0_2, m0_3, m0_4, m0_5, m0_6, m0_7, _⟩ := (Hs4_x0.out).cells8
 obtain ⟨m1_0, m1_1, m1_2, m1_3, m1_4, m1_5, m1_6, m1_7, _⟩ := (Hs4_b11.out).cells8
 obtain ⟨m2_0, m2_1, m2_2, m2_3, m2_4, m2_5, m2_6, m2_7, _⟩ := (Hb12.out).cells8
 go_wp2_with fail
 refine (HI0.out _ s11 p11 k11 c11 q11 l11 d11 sz11 pz11 kz11 cz11 qz11 lz11 dz11 x11 y11 s12 p12 k12 c12 q12 l12 d12 sz12 pz12 kz12 cz12 qz12 lz12 dz12 x12 y12 Hs4_g11.out Hs4_g12.out).mono ?_
 rintro e w13 ⟨rfl, hB13⟩
 clear m0_0 m0_1 m0_2 m0_3 m0_4 m0_5 m0_6 m0_7 m1_0 m1_1 m1_2 m1_3 m1_4 m1_5 m1_6 m1_7 m2_0 m2_1 m2_2 m2_3 m2_4 m2_5 m2_6 m2_7
 have Hs5_x0 := hid ((Hs4_x0.out).below hB13)
 have Hs5_g11 := hid ((Hs4_g11.out).below hB13)
 have Hs5_b11 := hid ((Hs4_b11.out).below hB13)
 have Hs5_g12 := hid ((Hs4_g12.out).below hB13)
 have Hs5_b12 := hid ((Hb12.out).below hB13)
 have HB5 := hid ((HB4.out).trans ((hB13).mono (HB4.out).size))
 have HZ0 := hid (HB5.out)
 clear hG11 hG12
 go_wp2_with fail
 refine (HA.out _ HZ0.out).mono ?_
 rintro e w14 ⟨rfl, hB14⟩
 have HZ1 := hid ((HZ0.out).trans (hB14.mono (HZ0.out).size))
 go_wp2_with fail
 go_ret
 exact ⟨rfl, HZ1.out⟩
theorem IntervalRoots_any (v : Value) (i : (Bool × Nat × Nat) × (Bool × Nat × Nat) × Bool × Bool) (n p : Int) (w : World) (ha : IRep w v i) (_hlo : -9223372036854775808 ≤ n) (_hhi : n < 9223372036854775808) (_hlo2 : -9223372036854775808 ≤ p) (_hhi2 : p < 9223372036854775808) (ht : TabOk w) :
  Calls Tryz.prog 6 #[v, .int .i64 n, .int .i64 p] w fun e w' => e = .returned (.bool true) ∧ Below w.heap.size w w' := by
 obtain ⟨s1, p1, k1, c1, q1, l1, d1, sz1, pz1, kz1, cz1, qz1, lz1, dz1, x1, y1, rfl, h1, h2, rfl, rfl⟩ := ha
 exact IntervalRoots_iv s1 p1 k1 c1 q1 l1 d1 sz1 pz1 kz1 cz1 qz1 lz1 dz1 _ _ n p i.1 i.2.1 w h1 h2 ht
end Go.Proofs.YtheojajaefjecaaGreatDoor
