/- The middle of an interval, by both sides. -/
import Derived.Test.YtheojajaefjecaaGreatDoorMidI
import Derived.Test.YtheojajaefjecaaGreatDoorMidJ
import Derived.Test.YtheojajaefjecaaGreatDoorHasT
import Derived.Test.YtheojajaefjecaaGreatDoorHasQ
namespace Go.Proofs.YtheojajaefjecaaGreatDoor
open Go.RowKit Dg
theorem frep_arep {t : Bool × Nat × Nat} {w : World} {v : Value} (h2 : t.2.1 < W32 ^ 64 ∧ t.2.2 < W32 ^ 64) (h : FNorm w v (outF t)) : ARep w v (outF t).1 (outF t).2.1 (outF t).2.2 := by
 have hd : den0 t.2.2 < W32 ^ 64 := by unfold den0; split; exact Nat.lt_of_le_of_lt (Nat.zero_le _) h2.2; exact h2.2
 exact FRep.arep h (lt_big h2.1 (by omega)) (lt_big hd (by omega))
theorem QFit.one : QFit (false, 1, 1) := ⟨IsFr.one, Nat.one_lt_pow (by omega) (by decide), Nat.one_lt_pow (by omega) (by decide)⟩
theorem num2 {f : FuncId} {m ta tb : Bool × Nat × Nat} {w : World} (qa : QFit ta) (qb : QFit tb) (ht : TabOk w)
  (h : ∀ v u W, ARep W v (outF ta).1 (outF ta).2.1 (outF ta).2.2 → ARep W u (outF tb).1 (outF tb).2.1 (outF tb).2.2 → TabOk W →
   Calls Tryz.prog f #[v, u] W fun e w' => Below W.heap.size W w' ∧ FRes w' e (ncode (outF ta).2.1 (outF ta).2.2 (outF tb).2.1 (outF tb).2.2 0 m) (outF m)) :
  Hid (∀ W (s4 : Bool) (p4 : Option Addr) (k4 c4 : Nat) (q4 : Option Addr) (l4 d4 : Nat) (s5 : Bool) (p5 : Option Addr) (k5 c5 : Nat) (q5 : Option Addr) (l5 d5 : Nat), Below w.heap.size w W → FNorm W (.agg #[.bool s4, .slice p4 k4 c4, .slice q4 l4 d4]) (outF ta) → FNorm W (.agg #[.bool s5, .slice p5 k5 c5, .slice q5 l5 d5]) (outF tb) → Calls Tryz.prog f #[.agg #[.bool s4, .slice p4 k4 c4, .slice q4 l4 d4], .agg #[.bool s5, .slice p5 k5 c5, .slice q5 l5 d5]] W fun e w' => ∃ s6 p6 k6 c6 q6 l6 d6, e = .returned (.tuple #[.agg #[.bool s6, .slice p6 k6 c6, .slice q6 l6 d6], .int .i64 (if big m.2.1 m.2.2 then 1 else 0)]) ∧ Hid (FNorm w' (.agg #[.bool s6, .slice p6 k6 c6, .slice q6 l6 d6]) (resT (if big m.2.1 m.2.2 then 1 else 0) m)) ∧ Below W.heap.size W w') := by
 refine hid fun W s4 p4 k4 c4 q4 l4 d4 s5 p5 k5 c5 q5 l5 d5 hW hA hB => ?_
 refine (h _ _ W (frep_arep qa.2 hA) (frep_arep qb.2 hB) (ht.below hW)).mono ?_
 rintro e w' ⟨hB', hR⟩
 have e1 : ncode (outF ta).2.1 (outF ta).2.2 (outF tb).2.1 (outF tb).2.2 0 m = if big m.2.1 m.2.2 then 1 else 0 := by
  rw [ncode_ok (by rw [qa.out.1, qb.out.1]; rfl), if_neg (by decide)]
 rw [e1] at hR
 obtain ⟨s6, p6, k6, c6, q6, l6, d6, rfl, hF⟩ := hR.uniF
 exact ⟨s6, p6, k6, c6, q6, l6, d6, rfl, hF, hB'⟩
theorem int1_f : Hid (∀ W, Calls Tryz.prog 87 #[.int .i64 1] W fun e w' => ∃ s5 p5 k5 c5 q5 l5 d5, e = .returned (.agg #[.bool s5, .slice p5 k5 c5, .slice q5 l5 d5]) ∧ Hid (FNorm w' (.agg #[.bool s5, .slice p5 k5 c5, .slice q5 l5 d5]) (outF (false, 1, 1))) ∧ Below W.heap.size W w') :=
 hid fun W => fopen (t := outF (false, 1, 1)) (nFromInt_any 1 W (by decide) (by decide))
theorem int0_f : Hid (∀ W, Calls Tryz.prog 87 #[.int .i64 0] W fun e w' => ∃ s6 p6 k6 c6 q6 l6 d6, e = .returned (.agg #[.bool s6, .slice p6 k6 c6, .slice q6 l6 d6]) ∧ Hid (FNorm w' (.agg #[.bool s6, .slice p6 k6 c6, .slice q6 l6 d6]) (outF (false, 0, 1))) ∧ Below W.heap.size W w') :=
 hid fun W => fopen (t := outF (false, 0, 1)) (nFromInt_any 0 W (by decide) (by decide))
theorem nul_small : big 0 1 = false := by decide +kernel
theorem smid_val (i1 : Int) (s1 : Bool) (p1 : Option Addr) (k1 c1 : Nat) (q1 : Option Addr) (l1 d1 : Nat) (j1 : Int) (sz1 : Bool) (pz1 : Option Addr) (kz1 cz1 : Nat) (qz1 : Option Addr) (lz1 dz1 : Nat) (e1 : Bool) (a b : Bool × Nat × Nat) (x y : Bool) (w : World) (h : SRep w (.agg #[.int .i64 i1, .bool s1, .slice p1 k1 c1, .slice q1 l1 d1, .int .i64 j1, .bool sz1, .slice pz1 kz1 cz1, .slice qz1 lz1 dz1, .bool e1]) (srd (a, b, x, y))) (h1 : large a.2.1 a.2.2 = false) (h2 : large b.2.1 b.2.2 = false) (he : (srd (a, b, x, y)).2.2 = false) (ht : TabOk w) :
  (big (mid a b x y).2.1 (mid a b x y).2.2 = false → Calls Tryz.prog 32 #[.agg #[.int .i64 i1, .bool s1, .slice p1 k1 c1, .slice q1 l1 d1, .int .i64 j1, .bool sz1, .slice pz1 kz1 cz1, .slice qz1 lz1 dz1, .bool e1]] w fun e w' => ∃ s6 p6 k6 c6 q6 l6 d6, e = .returned (.agg #[.bool s6, .slice p6 k6 c6, .slice q6 l6 d6]) ∧ Hid (FNorm w' (.agg #[.bool s6, .slice p6 k6 c6, .slice q6 l6 d6]) (outF (mid a b x y))) ∧ Below w.heap.size w w') ∧
  (big (mid a b x y).2.1 (mid a b x y).2.2 = true → Calls Tryz.prog 32 #[.agg #[.int .i64 i1, .bool s1, .slice p1 k1 c1, .slice q1 l1 d1, .int .i64 j1, .bool sz1, .slice pz1 kz1 cz1, .slice qz1 lz1 dz1, .bool e1]] w fun e w' => e = pan 1 ∧ Below w.heap.size w w') := by
 have hs := h.ends
 have e1' : e1 = false := hs.2.2.trans he
 have hi := (hs.1.frac).1
 have hj := (hs.2.1.frac).1
 have qa := QFit.of h1
 have qb := QFit.of h2
 have HL := hid (fun (W : World) (hW : Below w.heap.size w W) => erat_ok i1 s1 p1 k1 c1 q1 l1 d1 (srd (a, b, x, y)).1 W (hs.1.below hW) ((rdE_ok (.inr rfl) h1).le (by omega)) (ebig_rd h1))
 have HH := hid (fun (W : World) (hW : Below w.heap.size w W) => erat_ok j1 sz1 pz1 kz1 cz1 qz1 lz1 dz1 (srd (a, b, x, y)).2.1 W (hs.2.1.below hW) ((rdE_ok (.inl rfl) h2).le (by omega)) (ebig_rd h2))
 have HBD := hid (fun (W : World) (hW : Below w.heap.size w W) => sbd_any i1 s1 p1 k1 c1 q1 l1 d1 j1 sz1 pz1 kz1 cz1 qz1 lz1 dz1 e1 _ W (h.below hW))
 have go : ∀ {m : Bool × Nat × Nat}, big m.2.1 m.2.2 = false → (if big m.2.1 m.2.2 then (1 : Int) else 0) = 0 ∧ resT (if big m.2.1 m.2.2 then (1 : Int) else 0) m = outF m := by
  intro m hm
  rw [hm]
  exact ⟨rfl, rfl⟩
 cases x <;> cases y
 ·have HM := num2 (m := fhalf (fr a) (fr b)) qa qb ht (fun v u W hv hu hT => by
   have k := nMid_any v _ _ _ u _ _ _ W hv hu hT
   rw [show frac (outF (fr a)).1 (outF (fr a)).2.1 (den1 (outF (fr a)).2.2) = fr a from qa.fr, show frac (outF (fr b)).1 (outF (fr b)).2.1 (den1 (outF (fr b)).2.2) = fr b from qb.fr] at k
   exact k)
  constructor
  ·intro hm
   have hm' : big (fhalf (fr a) (fr b)).2.1 (fhalf (fr a) (fr b)).2.2 = false := hm
   rw [(go hm').2, (go hm').1] at HM
   exact smid_b i1 s1 p1 k1 c1 q1 l1 d1 j1 sz1 pz1 kz1 cz1 qz1 lz1 dz1 e1 (outF (fr a)) (outF (fr b)) (outF (fhalf (fr a) (fr b))) w e1' HBD HL HH HM
  ·intro hm
   have hm' : big (fhalf (fr a) (fr b)).2.1 (fhalf (fr a) (fr b)).2.2 = true := hm
   rw [hm'] at HM
   exact smid_b_err i1 s1 p1 k1 c1 q1 l1 d1 j1 sz1 pz1 kz1 cz1 qz1 lz1 dz1 e1 (outF (fr a)) (outF (fr b)) _ 1 w e1' HBD HL HH HM (by decide)
 ·have HM := num2 (m := fadd (fr a) (false, 1, 1)) qa QFit.one ht (fun v u W hv hu hT => by
   have k := nAdd_any v _ _ _ u _ _ _ W hv hu hT
   rw [show frac (outF (fr a)).1 (outF (fr a)).2.1 (den1 (outF (fr a)).2.2) = fr a from qa.fr, show frac (outF (false, 1, 1)).1 (outF (false, 1, 1)).2.1 (den1 (outF (false, 1, 1)).2.2) = (false, 1, 1) from QFit.one.fr] at k
   exact k)
  have hi' : (i1 != 0) = false := by rw [hi]; rfl
  constructor
  ·intro hm
   have hm' : big (fadd (fr a) (false, 1, 1)).2.1 (fadd (fr a) (false, 1, 1)).2.2 = false := hm
   rw [(go hm').2, (go hm').1] at HM
   exact smid_l i1 s1 p1 k1 c1 q1 l1 d1 j1 sz1 pz1 kz1 cz1 qz1 lz1 dz1 e1 (outF (fr a)) _ (outF (fadd (fr a) (false, 1, 1))) w e1' HBD hi' HL int1_f HM
  ·intro hm
   have hm' : big (fadd (fr a) (false, 1, 1)).2.1 (fadd (fr a) (false, 1, 1)).2.2 = true := hm
   rw [hm'] at HM
   exact smid_l_err i1 s1 p1 k1 c1 q1 l1 d1 j1 sz1 pz1 kz1 cz1 qz1 lz1 dz1 e1 (outF (fr a)) _ _ 1 w e1' HBD hi' HL int1_f HM (by decide)
 ·have HM := num2 (m := fsub (fr b) (false, 1, 1)) qb QFit.one ht (fun v u W hv hu hT => by
   have k := nSub_any v _ _ _ u _ _ _ W hv hu hT
   rw [show frac (outF (fr b)).1 (outF (fr b)).2.1 (den1 (outF (fr b)).2.2) = fr b from qb.fr, show frac (outF (false, 1, 1)).1 (outF (false, 1, 1)).2.1 (den1 (outF (false, 1, 1)).2.2) = (false, 1, 1) from QFit.one.fr] at k
   exact k)
  have hi' : (i1 != 0) = true := by rw [hi]; rfl
  have hj' : (j1 != 0) = false := by rw [hj]; rfl
  constructor
  ·intro hm
   have hm' : big (fsub (fr b) (false, 1, 1)).2.1 (fsub (fr b) (false, 1, 1)).2.2 = false := hm
   rw [(go hm').2, (go hm').1] at HM
   exact smid_h i1 s1 p1 k1 c1 q1 l1 d1 j1 sz1 pz1 kz1 cz1 qz1 lz1 dz1 e1 (outF (fr b)) _ (outF (fsub (fr b) (false, 1, 1))) w e1' HBD hi' hj' HH int1_f HM
  ·intro hm
   have hm' : big (fsub (fr b) (false, 1, 1)).2.1 (fsub (fr b) (false, 1, 1)).2.2 = true := hm
   rw [hm'] at HM
   exact smid_h_err i1 s1 p1 k1 c1 q1 l1 d1 j1 sz1 pz1 kz1 cz1 qz1 lz1 dz1 e1 (outF (fr b)) _ _ 1 w e1' HBD hi' hj' HH int1_f HM (by decide)
 ·have hi' : (i1 != 0) = true := by rw [hi]; rfl
  have hj' : (j1 != 0) = true := by rw [hj]; rfl
  constructor
  ·intro _
   exact smid_n i1 s1 p1 k1 c1 q1 l1 d1 j1 sz1 pz1 kz1 cz1 qz1 lz1 dz1 e1 (outF (false, 0, 1)) w e1' HBD hi' hj' int0_f
  ·intro hm
   exact absurd (nul_small.symm.trans hm) (by decide)
theorem enter_smid (args : Array Value) (w : World) : (callFunc 32 args).run Tryz.prog w = .ok (.enter 32 args) w := call_enter Tryz.func32 (by kernel_rfl) rfl args w
theorem iMid_ret {W : World} {B : Nat} {a0 a1 a2 ev : Value} {tm : Array Value} {R : Ending → World → Prop} (h2 : tm[2]?.getD undef = .pointer (some ⟨B, 0, none⟩)) (h3 : tm[3]?.getD undef = ev) (hV : Box W B #[a0, a1, a2]) (hR : R (.returned (.tuple #[.agg #[a0, a1, a2], ev])) W) :
  bodyPost Tryz.prog Tryz.f10 R .ret { tmps := tm, defers := [] } W := by
 obtain ⟨g0, g1, g2, _⟩ := hV.cells3
 exact bodyPost_ret (v := .tuple #[.agg #[a0, a1, a2], ev]) (by simp [results, Tryz.results10, go_sem, h2, h3, g0, g1, g2]) rfl hR
set_option maxHeartbeats 2000000 in
set_option maxRecDepth 100000 in
theorem iMiddle_any (s1 : Bool) (p1 : Option Addr) (k1 c1 : Nat) (q1 : Option Addr) (l1 d1 : Nat) (sz1 : Bool) (pz1 : Option Addr) (kz1 cz1 : Nat) (qz1 : Option Addr) (lz1 dz1 : Nat) (x1 : Bool) (y1 : Bool) (a b : Bool × Nat × Nat) (w : World) (ha : NRep w (.agg #[.bool s1, .slice p1 k1 c1, .slice q1 l1 d1]) a) (hb : NRep w (.agg #[.bool sz1, .slice pz1 kz1 cz1, .slice qz1 lz1 dz1]) b) (ht : TabOk w) :
  Calls Tryz.prog 10 #[.agg #[.bool s1, .slice p1 k1 c1, .slice q1 l1 d1, .bool sz1, .slice pz1 kz1 cz1, .slice qz1 lz1 dz1, .bool x1, .bool y1]] w fun e w' => Below w.heap.size w w' ∧ URF w' e (midc (a, b, x1, y1)) (midt (a, b, x1, y1)) := by
 have HC : Hid (∀ W, Below w.heap.size w W → Calls Tryz.prog 31 #[.agg #[.bool s1, .slice p1 k1 c1, .slice q1 l1 d1, .bool sz1, .slice pz1 kz1 cz1, .slice qz1 lz1 dz1, .bool x1, .bool y1], .func (.func 32) #[] #[]] W fun e w' => ∃ s5 p5 k5 c5 q5 l5 d5, e = .returned (.tuple #[.agg #[.bool s5, .slice p5 k5 c5, .slice q5 l5 d5], .int .i64 (midc (a, b, x1, y1))]) ∧ Hid (FNorm w' (.agg #[.bool s5, .slice p5 k5 c5, .slice q5 l5 d5]) (midt (a, b, x1, y1))) ∧ Below W.heap.size W w') := by
  refine hid fun W hW => ?_
  unfold midt midc
  cases hL : (large a.2.1 a.2.2 || large b.2.1 b.2.2)
  ·have hla : ilarge (a, b, x1, y1) = false := hL
   rw [hla]
   rw [Bool.or_eq_false_iff] at hL
   cases he : (srd (a, b, x1, y1)).2.2
   ·cases hm : big (mid a b x1 y1).2.1 (mid a b x1 y1).2.2
    ·exact askR_ok s1 p1 k1 c1 q1 l1 d1 sz1 pz1 kz1 cz1 qz1 lz1 dz1 x1 y1 _ #[] a b _ W (ha.below hW) (hb.below hW) hL.1 hL.2 (ht.below hW) enter_smid fun W4 i3 s3 p3 k3 c3 q3 l3 d3 j3 sz3 pz3 kz3 cz3 qz3 lz3 dz3 e3 hW4 hS => (smid_val i3 s3 p3 k3 c3 q3 l3 d3 j3 sz3 pz3 kz3 cz3 qz3 lz3 dz3 e3 a b x1 y1 W4 hS hL.1 hL.2 he ((ht.below hW).below hW4)).1 hm
    ·exact askR_err s1 p1 k1 c1 q1 l1 d1 sz1 pz1 kz1 cz1 qz1 lz1 dz1 x1 y1 _ #[] a b 1 W (ha.below hW) (hb.below hW) hL.1 hL.2 (ht.below hW) enter_smid fun W4 i3 s3 p3 k3 c3 q3 l3 d3 j3 sz3 pz3 kz3 cz3 qz3 lz3 dz3 e3 hW4 hS => (smid_val i3 s3 p3 k3 c3 q3 l3 d3 j3 sz3 pz3 kz3 cz3 qz3 lz3 dz3 e3 a b x1 y1 W4 hS hL.1 hL.2 he ((ht.below hW).below hW4)).2 hm
   ·exact askR_err s1 p1 k1 c1 q1 l1 d1 sz1 pz1 kz1 cz1 qz1 lz1 dz1 x1 y1 _ #[] a b 2 W (ha.below hW) (hb.below hW) hL.1 hL.2 (ht.below hW) enter_smid fun W4 i3 s3 p3 k3 c3 q3 l3 d3 j3 sz3 pz3 kz3 cz3 qz3 lz3 dz3 e3 hW4 hS => smid_none i3 s3 p3 k3 c3 q3 l3 d3 j3 sz3 pz3 kz3 cz3 qz3 lz3 dz3 e3 W4 (hS.ends.2.2.trans he)
  ·have hla : ilarge (a, b, x1, y1) = true := hL
   rw [hla]
   exact askR_large s1 p1 k1 c1 q1 l1 d1 sz1 pz1 kz1 cz1 qz1 lz1 dz1 x1 y1 _ #[] a b W (ha.below hW) (hb.below hW) hL (ht.below hW)
 obtain ⟨r, hr⟩ : ∃ r, r = midt (a, b, x1, y1) := ⟨_, rfl⟩
 obtain ⟨c, hc⟩ : ∃ r, r = midc (a, b, x1, y1) := ⟨_, rfl⟩
 rw [← hr, ← hc] at HC ⊢
 clear ha hb ht hr hc
 go_enter Tryz.func10, Tryz.ntmps10
 go_wp2_with fail
 have HV := hid (pre2 w [.bool s1, .slice p1 k1 c1, .slice q1 l1 d1, .bool sz1, .slice pz1 kz1 cz1, .slice qz1 lz1 dz1, .bool x1, .bool y1] [.bool false, .slice none 0 0, .slice none 0 0] 26 24 nd8 nd3)
 generalize (w.alloc (.cells #[.bool s1, .slice p1 k1 c1, .slice q1 l1 d1, .bool sz1, .slice pz1 kz1 cz1, .slice qz1 lz1 dz1, .bool x1, .bool y1] 26)).alloc (.cells #[.bool false, .slice none 0 0, .slice none 0 0] 24) = W0 at *
 refine (HC.out _ HV.out.2.2).mono ?_
 rintro e w1 ⟨s5, p5, k5, c5, q5, l5, d5, rfl, hF, hB1⟩
 have HE2 := hid (And.intro (HV.out.2.1.below hB1) (And.intro hF.out (HV.out.2.2.trans (hB1.mono HV.out.2.2.size))))
 clear hB1 hF
 obtain ⟨g0, g1, g2, f0, f1, f2⟩ := HE2.out.1.cells3
 go_wp2_with fail
 exact iMid_ret rfl rfl (HE2.out.1.stores [.bool s5, .slice p5 k5 c5, .slice q5 l5 d5] rfl nd3) ⟨Below.stores (k := 0) (l := [.bool s5, .slice p5 k5 c5, .slice q5 l5 d5]) HE2.out.2.2 (by omega), s5, p5, k5, c5, q5, l5, d5, rfl, hid (FNorm.stores (k := 0) (l := [.bool s5, .slice p5 k5 c5, .slice q5 l5 d5]) HE2.out.2.1 HE2.out.1 nd3)⟩
theorem w64_b {x : Nat} (h : x < W32 ^ 64) : x < B16 ^ 200 := lt_W_B6 h (by omega)
theorem jint_q (n : Nat) (hn : n ≤ 1) : Hid (∀ W, Calls Tryz.prog 30 #[.int .i64 (n : Int)] W fun e w' => ∃ s5 p5 k5 c5 q5 l5 d5, e = .returned (.agg #[.bool s5, .slice p5 k5 c5, .slice q5 l5 d5]) ∧ Hid (QNorm w' (.agg #[.bool s5, .slice p5 k5 c5, .slice q5 l5 d5]) (false, n, 1)) ∧ Below W.heap.size W w') := by
 refine hid fun W => qopen (t := (false, n, 1)) ?_
 have k := rInt_any (n : Int) W (by omega) (by omega)
 have e1 : mkq (decide ((n : Int) < 0)) (n : Int).natAbs 1 = (false, n, 1) := by
  have : n = 0 ∨ n = 1 := by omega
  rcases this with rfl | rfl <;> decide
 rw [e1] at k
 exact k
theorem jcen_val (s2 : Bool) (p2 : Option Addr) (k2 c2 : Nat) (q2 : Option Addr) (l2 d2 : Nat) (sz2 : Bool) (pz2 : Option Addr) (kz2 cz2 : Nat) (qz2 : Option Addr) (lz2 dz2 : Nat) (x2 : Bool) (y2 : Bool) (e2 : Bool) (a b : Bool × Nat × Nat) (x y : Bool) (w : World) (h : JRep w (.agg #[.bool s2, .slice p2 k2 c2, .slice q2 l2 d2, .bool sz2, .slice pz2 kz2 cz2, .slice qz2 lz2 dz2, .bool x2, .bool y2, .bool e2]) (jof (a, b, x, y))) (h1 : large a.2.1 a.2.2 = false) (h2 : large b.2.1 b.2.2 = false) (he : (srd (a, b, x, y)).2.2 = false) :
  Calls Tryz.prog 35 #[.agg #[.bool s2, .slice p2 k2 c2, .slice q2 l2 d2, .bool sz2, .slice pz2 kz2 cz2, .slice qz2 lz2 dz2, .bool x2, .bool y2, .bool e2]] w fun e w' => ∃ s5 p5 k5 c5 q5 l5 d5, e = .returned (.agg #[.bool s5, .slice p5 k5 c5, .slice q5 l5 d5]) ∧ Hid (QNorm w' (.agg #[.bool s5, .slice p5 k5 c5, .slice q5 l5 d5]) (mid a b x y)) ∧ Below w.heap.size w w' := by
 obtain ⟨hl, hh, hi, hj, _⟩ := JRep.parts s2 p2 k2 c2 q2 l2 d2 sz2 pz2 kz2 cz2 qz2 lz2 dz2 x2 y2 e2 h
 have hin := jof_in he
 rw [hin] at hl hh hi hj
 have qa := QFit.of h1
 have qb := QFit.of h2
 cases x <;> cases y
 ·have hi' : x2 = false := hi
  have hj' : y2 = false := hj
  subst hi' hj'
  exact jCen_b _ _ _ _ _ _ _ _ _ _ _ _ _ _ _ (fhalf (fr a) (fr b)) w (hid fun W hW => qopen (t := fhalf (fr a) (fr b)) (rHalf_any _ _ (fr a) (fr b) W (hl.below hW) (hh.below hW) qa.2.1 qa.2.2 qb.2.1 qb.2.2 qa.1.pos qb.1.pos))
 ·have hi' : x2 = false := hi
  have hj' : y2 = true := hj
  subst hi' hj'
  exact jCen_l _ _ _ _ _ _ _ _ _ _ _ _ _ _ _ (false, 1, 1) (fadd (fr a) (false, 1, 1)) w (jint_q 1 (by omega)) (hid fun W s6 p6 k6 c6 q6 l6 d6 hW hq => qopen (t := fadd (fr a) (false, 1, 1)) (rSum_any _ _ (fr a).1 (fr a).2.1 (fr a).2.2 false 1 1 200 W (hl.below hW) hq (w64_b qa.2.1) (w64_b qa.2.2) (w64_b QFit.one.2.1) (w64_b QFit.one.2.2) (by omega) qa.1.pos (by decide)))
 ·have hi' : x2 = true := hi
  have hj' : y2 = false := hj
  subst hi' hj'
  exact jCen_h _ _ _ _ _ _ _ _ _ _ _ _ _ _ _ (false, 1, 1) (fsub (fr b) (false, 1, 1)) w (jint_q 1 (by omega)) (hid fun W s6 p6 k6 c6 q6 l6 d6 hW hq => qopen (t := fsub (fr b) (false, 1, 1)) (rDiff_any _ _ (fr b) (false, 1, 1) 200 W (hh.below hW) hq (w64_b qb.2.1) (w64_b qb.2.2) (w64_b QFit.one.2.1) (w64_b QFit.one.2.2) (by omega) qb.1.pos (by decide)))
 ·have hi' : x2 = true := hi
  have hj' : y2 = true := hj
  subst hi' hj'
  exact jCen_n _ _ _ _ _ _ _ _ _ _ _ _ _ _ _ (false, 0, 1) w (jint_q 0 (by omega))
theorem jMiddle_any (s1 : Bool) (p1 : Option Addr) (k1 c1 : Nat) (q1 : Option Addr) (l1 d1 : Nat) (sz1 : Bool) (pz1 : Option Addr) (kz1 cz1 : Nat) (qz1 : Option Addr) (lz1 dz1 : Nat) (x1 : Bool) (y1 : Bool) (a b : Bool × Nat × Nat) (w : World) (ha : NRep w (.agg #[.bool s1, .slice p1 k1 c1, .slice q1 l1 d1]) a) (hb : NRep w (.agg #[.bool sz1, .slice pz1 kz1 cz1, .slice qz1 lz1 dz1]) b) :
  Calls Tryz.prog 11 #[.agg #[.bool s1, .slice p1 k1 c1, .slice q1 l1 d1, .bool sz1, .slice pz1 kz1 cz1, .slice qz1 lz1 dz1, .bool x1, .bool y1]] w fun e w' => Below w.heap.size w w' ∧ URF w' e (midc (a, b, x1, y1)) (midt (a, b, x1, y1)) := by
 have zero : ∀ {c : Int} {w' : World}, FNorm w' (.agg #[.bool false, .slice none 0 0, .slice none 0 0]) (false, 0, 0) := ⟨_, _, rfl, Rep.nil, Rep.nil⟩
 unfold midt midc
 cases hL : (large a.2.1 a.2.2 || large b.2.1 b.2.2)
 ·have hla : ilarge (a, b, x1, y1) = false := hL
  rw [hla]
  rw [Bool.or_eq_false_iff] at hL
  have HL := hid (fun (W : World) (hW : Below w.heap.size w W) => jOne_ok s1 p1 k1 c1 q1 l1 d1 sz1 pz1 kz1 cz1 qz1 lz1 dz1 x1 y1 a b 0 W (ha.below hW) (hb.below hW) hL.1 hL.2 (by omega) (by omega))
  cases he : (srd (a, b, x1, y1)).2.2
  ·have hn : (jof (a, b, x1, y1)).2.2.2.2 = false := by rw [jof_in he]
   exact jMid_ok s1 p1 k1 c1 q1 l1 d1 sz1 pz1 kz1 cz1 qz1 lz1 dz1 x1 y1 (jof (a, b, x1, y1)) (mid a b x1 y1) _ _ w hn HL (hid fun W s2 p2 k2 c2 q2 l2 d2 sz2 pz2 kz2 cz2 qz2 lz2 dz2 x2 y2 e2 hW hJ => jcen_val s2 p2 k2 c2 q2 l2 d2 sz2 pz2 kz2 cz2 qz2 lz2 dz2 x2 y2 e2 a b x1 y1 W hJ hL.1 hL.2 he) (hid fun W s5 p5 k5 c5 q5 l5 d5 hq => Done_any _ _ W hq IsFr.mid.pos IsFr.mid.zs)
  ·have hn : (jof (a, b, x1, y1)).2.2.2.2 = true := by rw [jof_out he]; rfl
   refine (jMid_none s1 p1 k1 c1 q1 l1 d1 sz1 pz1 kz1 cz1 qz1 lz1 dz1 x1 y1 _ w hn HL).mono ?_
   rintro e w' ⟨rfl, hB⟩
   exact ⟨hB, _, _, _, _, _, _, _, rfl, hid (zero (c := 0))⟩
 ·have hla : ilarge (a, b, x1, y1) = true := hL
  rw [hla]
  refine (jMid_err s1 p1 k1 c1 q1 l1 d1 sz1 pz1 kz1 cz1 qz1 lz1 dz1 x1 y1 1 w (by decide) (hid fun W hW => jOne_large s1 p1 k1 c1 q1 l1 d1 sz1 pz1 kz1 cz1 qz1 lz1 dz1 x1 y1 a b 0 W (ha.below hW) (hb.below hW) hla)).mono ?_
  rintro e w' ⟨rfl, hB⟩
  exact ⟨hB, _, _, _, _, _, _, _, rfl, hid (zero (c := 0))⟩
end Go.Proofs.YtheojajaefjecaaGreatDoor
