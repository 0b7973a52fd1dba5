/- The rationals of the specification: sum, difference, order, product, quotient, what is large, and the floor. -/
import Derived.Test.YteblinkehldghaaGreatDoorRefT
import Derived.Test.YteblinkehldghaaGreatDoorLawD
set_option maxHeartbeats 8000000
set_option maxRecDepth 100000
namespace Go.Proofs.YteblinkehldghaaGreatDoor
open Go.RowKit Dg
open And renaming intro→Ai
open Nat renaming le_refl→Lr
open Below renaming refl→Br
theorem rSum_ret{W:World}{B:Nat}{x y z:Value}{tm:Array Value}{R:Ending→World→Prop}(h2:tm[4]?.getD undef=.pointer (some ⟨B,0,none⟩))(hV:Var3 W B x y z)(hR:R (.returned (.agg #[x,y,z])) W):
  bodyPost Tryz.prog Tryz.f139 R .ret {tmps:=tm,defers:=[]} W:=by
 obtain⟨c0,c1,c2,_,_,_⟩:=hV.cells;exact bodyPost_ret (v:=.agg #[x,y,z]) (by simp [results,Tryz.results139,go_sem,h2,c0,c1,c2]) rfl hR
theorem rDiff_ret{W:World}{B:Nat}{x y z:Value}{tm:Array Value}{R:Ending→World→Prop}(h2:tm[4]?.getD undef=.pointer (some ⟨B,0,none⟩))(hV:Var3 W B x y z)(hR:R (.returned (.agg #[x,y,z])) W):
  bodyPost Tryz.prog Tryz.f102 R .ret {tmps:=tm,defers:=[]} W:=by
 obtain⟨c0,c1,c2,_,_,_⟩:=hV.cells;exact bodyPost_ret (v:=.agg #[x,y,z]) (by simp [results,Tryz.results102,go_sem,h2,c0,c1,c2]) rfl hR
theorem rProd_ret{W:World}{B:Nat}{x y z:Value}{tm:Array Value}{R:Ending→World→Prop}(h2:tm[4]?.getD undef=.pointer (some ⟨B,0,none⟩))(hV:Var3 W B x y z)(hR:R (.returned (.agg #[x,y,z])) W):
  bodyPost Tryz.prog Tryz.f99 R .ret {tmps:=tm,defers:=[]} W:=by
 obtain⟨c0,c1,c2,_,_,_⟩:=hV.cells;exact bodyPost_ret (v:=.agg #[x,y,z]) (by simp [results,Tryz.results99,go_sem,h2,c0,c1,c2]) rfl hR
theorem rDiv_ret{W:World}{B:Nat}{x y z:Value}{tm:Array Value}{R:Ending→World→Prop}(h2:tm[4]?.getD undef=.pointer (some ⟨B,0,none⟩))(hV:Var3 W B x y z)(hR:R (.returned (.agg #[x,y,z])) W):
  bodyPost Tryz.prog Tryz.f68 R .ret {tmps:=tm,defers:=[]} W:=by
 obtain⟨c0,c1,c2,_,_,_⟩:=hV.cells;exact bodyPost_ret (v:=.agg #[x,y,z]) (by simp [results,Tryz.results68,go_sem,h2,c0,c1,c2]) rfl hR
theorem mkq_pos{s:Bool}{n d:Nat}(hd:0 < d):mkq s n d=frac s n d:=by
 have h:=mkq_fr (s:=s) (n:=n) (d:=d)
 rwa [show den1 d=d by unfold den1;rw[if_neg (by omega)]] at h
theorem den1_self{d:Nat}(hd:0 < d):den1 d=d:=by unfold den1;rw[if_neg (by omega)]
theorem mul_b{x y a b c:Nat}(hx:x < B16 ^ a)(hy:y < B16 ^ b)(h:a+b≤c):x*y < B16 ^ c:=Nat.lt_of_lt_of_le (mul_lt16 hx hy) (Nat.pow_le_pow_right B16_pos h)
theorem add_b{x y a c:Nat}(hx:x < B16 ^ a)(hy:y < B16 ^ a)(h:a+1≤c):x+y < B16 ^ c:=by
 have h1:x+y < B16 ^ a*2:=by omega
 have h2:B16 ^ a*2≤B16 ^ (a+1):=by rw[Nat.pow_succ];exact Nat.mul_le_mul_left _ (by decide)
 exact Nat.lt_of_lt_of_le h1 (Nat.le_trans h2 (Nat.pow_le_pow_right B16_pos h))
theorem up_b{x a:Nat}(h:x < B16 ^ a):x < B16 ^ (a+1):=Nat.lt_of_lt_of_le h (Nat.pow_le_pow_right B16_pos (by omega))
theorem sub_b{x y a:Nat}(h:x < B16 ^ a):x - y < B16 ^ (a+1):=up_b (Nat.lt_of_le_of_lt (Nat.sub_le x y) h)
theorem b_big{x a:Nat}(h:x < B16 ^ a)(ha:a≤1000000000):x < B16 ^ 1000000000:=lt_16 h ha
theorem Make_open(s)(vn vd:Value)(n d a:Nat)(W:World)(hn:Rep B16 W vn n)(hd:Rep B16 W vd d)(hnB:n < B16 ^ a)(hdB:d < B16 ^ a)(ha:a≤800000000)(hd0:0 < d):
  Calls Tryz.prog 47 #[.bool s,vn,vd] W fun e w'=>∃sg pa ka ca pb kb cb,e=.returned (.agg #[.bool sg,.slice pa ka ca,.slice pb kb cb])∧Hid (QNorm w' (.agg #[.bool sg,.slice pa ka ca,.slice pb kb cb]) (frac s n d))∧Bw W w':=by
 refine qopen (t:=frac s n d) ?_;have h:=MakeOK.any hnB hdB ha s vn vd W hn hd;rw[mkq_pos hd0] at h;exact h
theorem rSum_any(va vb:Value)(s1:Bool)(n1 d1:Nat)(s2:Bool)(n2 d2:Nat)(A:Nat)(w:World)(ha:QNorm w va (s1,n1,d1))(hb:QNorm w vb (s2,n2,d2))
  (hn1:n1 < B16 ^ A)(hd1:d1 < B16 ^ A)(hn2:n2 < B16 ^ A)(hd2:d2 < B16 ^ A)(hA:A≤1000000)(h1:0 < d1)(h2:0 < d2):
  Calls Tryz.prog 139 #[va,vb] w fun e w'=>∃v',e=.returned v'∧QNorm w' v' (fadd (s1,n1,d1) (s2,n2,d2))∧Bw w w':=by
 have HQa:=hid ha;have HQb:=hid hb;obtain⟨vn1,vd1,rfl,hrn1,hrd1⟩:=ha;obtain⟨vn2,vd2,rfl,hrn2,hrd2⟩:=hb;have HR:=hid (Ai (Ai hrn1 hrd1) (Ai hrn2 hrd2));obtain⟨p1,k1,c1,rfl,_,_,_⟩:=hrn1;obtain⟨p2,k2,c2,rfl,_,_,_⟩:=hrd1;obtain⟨p3,k3,c3,rfl,_,_,_⟩:=hrn2;obtain⟨p4,k4,c4,rfl,_,_,_⟩:=hrd2;have HB:=hid (Ai (Ai (b_big hn1 (by omega)) (b_big hd1 (by omega))) (Ai (b_big hn2 (by omega)) (b_big hd2 (by omega))));have HX:=hid (Ai (mul_b (c:=2*A) hn1 hd2 (by omega)) (Ai (mul_b (c:=2*A) hn2 hd1 (by omega)) (mul_b (c:=2*A) hd1 hd2 (by omega))));have hD0:0 < d1*d2:=Nat.mul_pos h1 h2;have HT:=hid (Ai hA hD0);have hde1:=den1_self h1;have hde2:=den1_self h2;clear hn1 hd1 hn2 hd2 h1 h2 hD0;obtain⟨t,htt⟩:∃t,t=fadd (s1,n1,d1) (s2,n2,d2):=⟨_,rfl⟩;rw[←htt];have HTT:=hid htt;clear htt;have HDa:=hid (fun (W:World) (hW:Bw w W)=>den_any _ s1 n1 d1 W (HQa.out.below hW));have HDb:=hid (fun (W:World) (hW:Bw w W)=>den_any _ s2 n2 d2 W (HQb.out.below hW));rw[hde1] at HDa;rw[hde2] at HDb;clear hde1 hde2;go_enter Tryz.func139,Tryz.ntmps139;go_upto_region 1 with fail;have hVa:Var3 (w.alloc (.cells #[.bool s1,.slice p1 k1 c1,.slice p2 k2 c2] 40)) w.heap.size (.bool s1) (.slice p1 k1 c1) (.slice p2 k2 c2):=Var3.alloc w 40 trivial trivial trivial;have hVb:=Var3.alloc2 w (.cells #[.bool s1,.slice p1 k1 c1,.slice p2 k2 c2] 40) (x:=.bool s2) (y:=.slice p3 k3 c3) (z:=.slice p4 k4 c4) 40 trivial trivial trivial;have hVr:=Var3.alloc3 w (.cells #[.bool s1,.slice p1 k1 c1,.slice p2 k2 c2] 40) (.cells #[.bool s2,.slice p3 k3 c3,.slice p4 k4 c4] 40) (x:=.bool false) (y:=.slice none 0 0) (z:=.slice none 0 0) 40 trivial trivial trivial;have hB0:=below_alloc3 w (.cells #[.bool s1,.slice p1 k1 c1,.slice p2 k2 c2] 40) (.cells #[.bool s2,.slice p3 k3 c3,.slice p4 k4 c4] 40) (.cells #[.bool false,.slice none 0 0,.slice none 0 0] 40);have hVa':=(hVa.below ((Br _ _).alloc (Lr _) (.cells #[.bool s2,.slice p3 k3 c3,.slice p4 k4 c4] 40))).below ((Br _ _).alloc (Lr _) (.cells #[.bool false,.slice none 0 0,.slice none 0 0] 40));have hVb':=hVb.below ((Br _ _).alloc (Lr _) (.cells #[.bool false,.slice none 0 0,.slice none 0 0] 40));clear hVa hVb;generalize hW0:((w.alloc (.cells #[.bool s1,.slice p1 k1 c1,.slice p2 k2 c2] 40)).alloc (.cells #[.bool s2,.slice p3 k3 c3,.slice p4 k4 c4] 40)).alloc (.cells #[.bool false,.slice none 0 0,.slice none 0 0] 40)=W0 at *;clear hW0;have HV:=hid (Ai hVa' (Ai hVb' (Ai hVr hB0)))
 have HS:Hid (∀w',Bw W0 w'→(w'.cell? ⟨w.heap.size,0,none⟩=some (.bool s1)∧w'.cell? ⟨w.heap.size,1,none⟩=some (.slice p1 k1 c1)∧w'.cell? ⟨w.heap.size,2,none⟩=some (.slice p2 k2 c2)∧w'.cell? ⟨w.heap.size+1,0,none⟩=some (.bool s2)∧w'.cell? ⟨w.heap.size+1,1,none⟩=some (.slice p3 k3 c3)∧w'.cell? ⟨w.heap.size+1,2,none⟩=some (.slice p4 k4 c4)∧Hid (Bw W0 w'))):=
  hid fun w' hb=>⟨(hVa'.below hb).cells.1,(hVa'.below hb).cells.2.1,(hVa'.below hb).cells.2.2.1,(hVb'.below hb).cells.1,(hVb'.below hb).cells.2.1,(hVb'.below hb).cells.2.2.1,hid hb⟩
 have hMx:=hid (fun (W:World) (vd:Value) (hW:Bw w W) (hd:Rep B16 W vd d2)=>NatMul_any _ vd n1 d2 W (HR.out.1.1.below hW) hd HB.out.1.1 HB.out.2.2);have hMy:=hid (fun (W:World) (vd:Value) (hW:Bw w W) (hd:Rep B16 W vd d1)=>NatMul_any _ vd n2 d1 W (HR.out.2.1.below hW) hd HB.out.2.1 HB.out.1.2);have hMd:=hid (fun (W:World) (v1 v2:Value) (hd1:Rep B16 W v1 d1) (hd2:Rep B16 W v2 d2)=>NatMul_any v1 v2 d1 d2 W hd1 hd2 HB.out.1.2 HB.out.2.2);have HB0:=hid hB0;clear hVa' hVb' hVr hB0
 go_region_held3 (fun w'=>w'.cell? ⟨w.heap.size,0,none⟩=some (.bool s1)∧w'.cell? ⟨w.heap.size,1,none⟩=some (.slice p1 k1 c1)∧w'.cell? ⟨w.heap.size,2,none⟩=some (.slice p2 k2 c2)∧w'.cell? ⟨w.heap.size+1,0,none⟩=some (.bool s2)∧w'.cell? ⟨w.heap.size+1,1,none⟩=some (.slice p3 k3 c3)∧w'.cell? ⟨w.heap.size+1,2,none⟩=some (.slice p4 k4 c4)∧Hid (Bw W0 w'))
  (first | exact HS.out _ (Br _ _).drew | (exact HS.out _ (by assumption)))
  (first
   | (go_at_call_of 105 k3;refine(HDb.out _ (HB0.out.trans ((held6 (N:=W0.heap.size) (W0:=W0) (by assumption)).mono HB0.out.size))).mono ?_;rintro e we ⟨v2,rfl,hR2,hB2⟩;have hK2:=held_any (held6 (N:=W0.heap.size) (W0:=W0) (by assumption)) hB2;obtain⟨p5,k5,c5,rfl,hx5⟩:=id hR2;clear hx5)
   | (go_at_call_of 105 k1;refine(HDa.out _ (HB0.out.trans ((held6 (N:=W0.heap.size) (W0:=W0) (by assumption)).mono HB0.out.size))).mono ?_;rintro e wf ⟨v1,rfl,hR1,hB1⟩;have hK1:=held_any (held6 (N:=W0.heap.size) (W0:=W0) (by assumption)) hB1;obtain⟨p6,k6,c6,rfl,hx6⟩:=id hR1;clear hx6)
   | (go_at_call_of 104 k1;refine(hMx.out _ _ (HB0.out.trans ((held6 (N:=W0.heap.size) (W0:=W0) (by assumption)).mono HB0.out.size)) hR2).mono ?_;rintro e wx ⟨vx,rfl,hRx,hBx⟩;have hKx:=held_any (held6 (N:=W0.heap.size) (W0:=W0) (by assumption)) hBx)
   | (go_at_call_of 104 k3;refine(hMy.out _ _ (HB0.out.trans ((held6 (N:=W0.heap.size) (W0:=W0) (by assumption)).mono HB0.out.size)) hR1).mono ?_;rintro e wy ⟨vy,rfl,hRy,hBy⟩;have hKy:=held_any (held6 (N:=W0.heap.size) (W0:=W0) (by assumption)) hBy))
 rename_i hHeld
 clear hHeld
 have HP0:Hid ((Rep B16 wy vx (n1*d2)∧Rep B16 wy vy (n2*d1))∧(Var3 wy w.heap.size (.bool s1) (.slice p1 k1 c1) (.slice p2 k2 c2)∧Var3 wy (w.heap.size+1) (.bool s2) (.slice p3 k3 c3) (.slice p4 k4 c4)∧Var3 wy (w.heap.size+1+1) (.bool false) (.slice none 0 0) (.slice none 0 0))∧Bw w wy):=
  hid ⟨⟨(hRx.below hB1).below hBy,hRy⟩,⟨HV.out.1.below hKy,HV.out.2.1.below hKy,HV.out.2.2.1.below hKy⟩,HV.out.2.2.2.trans (hKy.mono HV.out.2.2.2.size)⟩
 have HB1:Hid (Bw w wy):=hid HP0.out.2.2
 have HS1:Hid (∀w',Bw wy w'→(w'.cell? ⟨w.heap.size,0,none⟩=some (.bool s1)∧w'.cell? ⟨w.heap.size,1,none⟩=some (.slice p1 k1 c1)∧w'.cell? ⟨w.heap.size,2,none⟩=some (.slice p2 k2 c2)∧w'.cell? ⟨w.heap.size+1,0,none⟩=some (.bool s2)∧w'.cell? ⟨w.heap.size+1,1,none⟩=some (.slice p3 k3 c3)∧w'.cell? ⟨w.heap.size+1,2,none⟩=some (.slice p4 k4 c4)∧Hid (Bw wy w'))):=
  hid fun w' hb=>⟨(HP0.out.2.1.1.below hb).cells.1,(HP0.out.2.1.1.below hb).cells.2.1,(HP0.out.2.1.1.below hb).cells.2.2.1,(HP0.out.2.1.2.1.below hb).cells.1,(HP0.out.2.1.2.1.below hb).cells.2.1,(HP0.out.2.1.2.1.below hb).cells.2.2.1,hid hb⟩
 clear hRx hBx hKx hRy hBy hKy hR2 hB2 hK2 hR1 hB1 hK1 HS hMx hMy HV;obtain⟨b0,b1,b2,_,_,_⟩:=HP0.out.2.1.1.cells;obtain⟨e0,e1,e2,_,_,_⟩:=HP0.out.2.1.2.1.cells;go_upto_region 2 with fail;clear b0 b1 b2 e0 e1 e2
 go_region_held3 (fun w'=>w'.cell? ⟨w.heap.size,0,none⟩=some (.bool s1)∧w'.cell? ⟨w.heap.size,1,none⟩=some (.slice p1 k1 c1)∧w'.cell? ⟨w.heap.size,2,none⟩=some (.slice p2 k2 c2)∧w'.cell? ⟨w.heap.size+1,0,none⟩=some (.bool s2)∧w'.cell? ⟨w.heap.size+1,1,none⟩=some (.slice p3 k3 c3)∧w'.cell? ⟨w.heap.size+1,2,none⟩=some (.slice p4 k4 c4)∧Hid (Bw wy w'))
  (first | exact HS1.out _ (Br _ _).drew | (exact HS1.out _ (by assumption)))
  (first
   | (go_at_call_of 105 k3;refine(HDb.out _ (HB1.out.trans ((held6 (N:=wy.heap.size) (W0:=wy) (by assumption)).mono HB1.out.size))).mono ?_;rintro e wg ⟨v4,rfl,hR4,hB4⟩;have hK4:=held_any (held6 (N:=wy.heap.size) (W0:=wy) (by assumption)) hB4;obtain⟨p7,k7,c7,rfl,hx7⟩:=id hR4;clear hx7)
   | (go_at_call_of 105 k1;refine(HDa.out _ (HB1.out.trans ((held6 (N:=wy.heap.size) (W0:=wy) (by assumption)).mono HB1.out.size))).mono ?_;rintro e wh ⟨v3,rfl,hR3,hB3⟩;have hK3:=held_any (held6 (N:=wy.heap.size) (W0:=wy) (by assumption)) hB3;obtain⟨p8,k8,c8,rfl,hx8⟩:=id hR3;clear hx8)
   | (go_at_call 104;refine(hMd.out _ _ _ (hR3.below hB4) hR4).mono ?_;rintro e wd ⟨vd,rfl,hRd,hBd⟩;have hKd:=held_any (held6 (N:=wy.heap.size) (W0:=wy) (by assumption)) hBd))
 rename_i hHeld
 clear hHeld
 have HP:Hid ((Rep B16 wd vx (n1*d2)∧Rep B16 wd vy (n2*d1)∧Rep B16 wd vd (d1*d2))∧(Var3 wd w.heap.size (.bool s1) (.slice p1 k1 c1) (.slice p2 k2 c2)∧Var3 wd (w.heap.size+1) (.bool s2) (.slice p3 k3 c3) (.slice p4 k4 c4)∧Var3 wd (w.heap.size+1+1) (.bool false) (.slice none 0 0) (.slice none 0 0))∧Bw w wd):=
  hid ⟨⟨HP0.out.1.1.below hKd,HP0.out.1.2.below hKd,hRd⟩,⟨HP0.out.2.1.1.below hKd,HP0.out.2.1.2.1.below hKd,HP0.out.2.1.2.2.below hKd⟩,HP0.out.2.2.trans (hKd.mono HP0.out.2.2.size)⟩
 clear hRd hBd hKd hR4 hB4 hK4 hR3 hB3 hK3 HS1 hMd HR HB HP0 HB1 HB0 HDa HDb HQa HQb;obtain⟨b0,b1,b2,_,_,_⟩:=HP.out.2.1.1.cells;obtain⟨e0,e1,e2,_,_,_⟩:=HP.out.2.1.2.1.cells;clear b1 b2 e1 e2
 have hA2:2*A≤1000000000:=by have:=HT.out.1;omega
 have hA3:2*A+1≤800000000:=by have:=HT.out.1;omega
 have hC:=hid (NatCmp_any vx vy (n1*d2) (n2*d1) wd HP.out.1.1 HP.out.1.2.1 (b_big HX.out.1 hA2) (b_big HX.out.2.1 hA2));have HA3:=hid hA3;have HA2:=hid hA2;clear hA2 hA3
 have hn2:w.heap.size+1+1≤wd.heap.size:=by obtain⟨_,h0,_⟩:=HP.out.2.1.2.2;exact Nat.le_of_lt (Array.getElem?_eq_some_iff.1 h0).1
 have HE:s1=s2∨(s1≠s2∧n1*d2 < n2*d1)∨(s1≠s2∧¬n1*d2 < n2*d1):=by
  by_cases a:s1=s2<;>by_cases b:n1*d2 < n2*d1<;>simp [a,b]
 rcases HE with he | ⟨he,hl⟩ | ⟨he,hl⟩
 case inl=>
  subst he;have hOp:=hid (fun (W:World) (hW:Bw wd W)=>NatAdd_any vx vy (n1*d2) (n2*d1) W (HP.out.1.1.below hW) (HP.out.1.2.1.below hW) (b_big HX.out.1 HA2.out) (b_big HX.out.2.1 HA2.out));have hNew:=hid (fun (W:World) (vN:Value) (hN:Rep B16 W vN (n1*d2+n2*d1)) (hW:Bw wd W)=>Make_open s1 vN vd (n1*d2+n2*d1) (d1*d2) (2*A+1) W hN (HP.out.1.2.2.below hW) (add_b HX.out.1 HX.out.2.1 (Lr _)) (up_b HX.out.2.2) HA3.out HT.out.2);have hF:Hid (t=frac s1 (n1*d2+n2*d1) (d1*d2)):=hid (by rw[HTT.out];simp [fadd])
  have HS2:Hid (∀w',Below (w.heap.size+1+1) wd w'→(w'.cell? ⟨w.heap.size,0,none⟩=some (.bool s1)∧w'.cell? ⟨w.heap.size+1,0,none⟩=some (.bool s1)∧Hid (Below (w.heap.size+1+1) wd w'))):=
   hid fun w' hb=>⟨(bcellN hb _ _ (by omega)).trans HP.out.2.1.1.cells.1,(bcellN hb _ _ (by omega)).trans HP.out.2.1.2.1.cells.1,hid hb⟩
  go_wp2_with fail
  go_region_held3 (fun w'=>w'.cell? ⟨w.heap.size,0,none⟩=some (.bool s1)∧w'.cell? ⟨w.heap.size+1,0,none⟩=some (.bool s1)∧Hid (Below (w.heap.size+1+1) wd w'))
    (first | exact HS2.out _ (Br _ _).drew | (exact HS2.out _ (by assumption)) | exact HS2.out _ (below_set3 (by assumption) (Lr _)))
    (first
     | (go_at_call 137;refine(hOp.out _ (Br _ _).drew).mono ?_;rintro e wo ⟨vo,rfl,hRo,hBo⟩;have hKo:=held_any (Br _ _).drew hBo;have hKo2:=below_pre hKo hn2)
     | (go_at_call 47;refine(hNew.out _ _ hRo hKo).mono ?_;rintro e wf ⟨sg,pa,ka,ca,pb,kb,cb,rfl,HF,hBf⟩;have hKf:=held_any hKo hBf;have hKf2:=below_pre hKf hn2;obtain⟨x0,x1,x2,y0,y1,y2⟩:=(HP.out.2.1.2.2.below hKf).cells))
  rename_i hHeld
  clear hHeld;go_wp2_with fail;exact rSum_ret rfl ((HP.out.2.1.2.2.below hKf).store trivial trivial trivial) ⟨_,rfl,by rw[hF.out];exact HF.out.store3 (HP.out.2.1.2.2.below hKf) _ _ _,below_set3 (HP.out.2.2.trans (hKf.mono HP.out.2.2.size)) (by show w.heap.size≤w.heap.size+1+1;omega)⟩
 case inr.inl=>
  have hne:(s1 == s2)=false:=by cases s1<;>cases s2<;>first | rfl | exact absurd rfl he
  go_wp2_with fail;refine hC.out.mono ?_;rintro e w' ⟨rfl,q,rfl⟩;rw[show cmp3 (n1*d2) (n2*d1)=-1 from if_pos hl];have hF:Hid (t=frac s2 (n2*d1 - n1*d2) (d1*d2)):=hid (by rw[HTT.out];simp only[fadd];rw[if_neg he,if_pos hl]);have hOp:=hid (fun (W:World) (hW:Bw wd W)=>NatSub_any vy vx (n2*d1) (n1*d2) W (HP.out.1.2.1.below hW) (HP.out.1.1.below hW) (b_big HX.out.2.1 HA2.out) (Nat.le_of_lt hl));have hNew:=hid (fun (W:World) (vN:Value) (hN:Rep B16 W vN (n2*d1 - n1*d2)) (hW:Bw wd W)=>Make_open s2 vN vd (n2*d1 - n1*d2) (d1*d2) (2*A+1) W hN (HP.out.1.2.2.below hW) (sub_b HX.out.2.1) (up_b HX.out.2.2) HA3.out HT.out.2)
  have HS2:Hid (∀w',Below (w.heap.size+1+1) wd w'→(w'.cell? ⟨w.heap.size,0,none⟩=some (.bool s1)∧w'.cell? ⟨w.heap.size+1,0,none⟩=some (.bool s2)∧Hid (Below (w.heap.size+1+1) wd w'))):=
   hid fun w' hb=>⟨(bcellN hb _ _ (by omega)).trans HP.out.2.1.1.cells.1,(bcellN hb _ _ (by omega)).trans HP.out.2.1.2.1.cells.1,hid hb⟩
  go_wp2_with fail
  go_region_held3 (fun w'=>w'.cell? ⟨w.heap.size,0,none⟩=some (.bool s1)∧w'.cell? ⟨w.heap.size+1,0,none⟩=some (.bool s2)∧Hid (Below (w.heap.size+1+1) wd w'))
    (first | exact HS2.out _ (below_drewN (Br _ _) q).drew | (exact HS2.out _ (by assumption)) | exact HS2.out _ (below_set3 (by assumption) (Lr _)))
    (first
     | (go_at_call 160;refine(hOp.out _ (below_drewN (Br _ _) q).drew).mono ?_;rintro e wo ⟨vo,rfl,hRo,hBo⟩;have hKo:=held_any (below_drewN (Br _ _) q).drew hBo;have hKo2:=below_pre hKo hn2)
     | (go_at_call 47;refine(hNew.out _ _ hRo hKo).mono ?_;rintro e wf ⟨sg,pa,ka,ca,pb,kb,cb,rfl,HF,hBf⟩;have hKf:=held_any hKo hBf;have hKf2:=below_pre hKf hn2;obtain⟨x0,x1,x2,y0,y1,y2⟩:=(HP.out.2.1.2.2.below hKf).cells))
  rename_i hHeld
  clear hHeld;go_wp2_with fail;exact rSum_ret rfl ((HP.out.2.1.2.2.below hKf).store trivial trivial trivial) ⟨_,rfl,by rw[hF.out];exact HF.out.store3 (HP.out.2.1.2.2.below hKf) _ _ _,below_set3 (HP.out.2.2.trans (hKf.mono HP.out.2.2.size)) (by show w.heap.size≤w.heap.size+1+1;omega)⟩
 case inr.inr=>
  have hne:(s1 == s2)=false:=by cases s1<;>cases s2<;>first | rfl | exact absurd rfl he
  go_wp2_with fail;refine hC.out.mono ?_;rintro e w' ⟨rfl,q,rfl⟩;have hcm:=cmp3_ge0 hl;obtain⟨cm,hcm'⟩:∃cm,cm=cmp3 (n1*d2) (n2*d1):=⟨_,rfl⟩;rw[←hcm'] at hcm;rw[←hcm'];clear hcm';have hF:Hid (t=frac s1 (n1*d2 - n2*d1) (d1*d2)):=hid (by rw[HTT.out];simp only[fadd];rw[if_neg he,if_neg hl]);have hOp:=hid (fun (W:World) (hW:Bw wd W)=>NatSub_any vx vy (n1*d2) (n2*d1) W (HP.out.1.1.below hW) (HP.out.1.2.1.below hW) (b_big HX.out.1 HA2.out) (Nat.le_of_not_lt hl));have hNew:=hid (fun (W:World) (vN:Value) (hN:Rep B16 W vN (n1*d2 - n2*d1)) (hW:Bw wd W)=>Make_open s1 vN vd (n1*d2 - n2*d1) (d1*d2) (2*A+1) W hN (HP.out.1.2.2.below hW) (sub_b HX.out.1) (up_b HX.out.2.2) HA3.out HT.out.2)
  have HS2:Hid (∀w',Below (w.heap.size+1+1) wd w'→(w'.cell? ⟨w.heap.size,0,none⟩=some (.bool s1)∧w'.cell? ⟨w.heap.size+1,0,none⟩=some (.bool s2)∧Hid (Below (w.heap.size+1+1) wd w'))):=
   hid fun w' hb=>⟨(bcellN hb _ _ (by omega)).trans HP.out.2.1.1.cells.1,(bcellN hb _ _ (by omega)).trans HP.out.2.1.2.1.cells.1,hid hb⟩
  go_wp2_with fail
  go_region_held3 (fun w'=>w'.cell? ⟨w.heap.size,0,none⟩=some (.bool s1)∧w'.cell? ⟨w.heap.size+1,0,none⟩=some (.bool s2)∧Hid (Below (w.heap.size+1+1) wd w'))
    (first | exact HS2.out _ (below_drewN (Br _ _) q).drew | (exact HS2.out _ (by assumption)) | exact HS2.out _ (below_set3 (by assumption) (Lr _)))
    (first
     | (go_at_call 160;refine(hOp.out _ (below_drewN (Br _ _) q).drew).mono ?_;rintro e wo ⟨vo,rfl,hRo,hBo⟩;have hKo:=held_any (below_drewN (Br _ _) q).drew hBo;have hKo2:=below_pre hKo hn2)
     | (go_at_call 47;refine(hNew.out _ _ hRo hKo).mono ?_;rintro e wf ⟨sg,pa,ka,ca,pb,kb,cb,rfl,HF,hBf⟩;have hKf:=held_any hKo hBf;have hKf2:=below_pre hKf hn2;obtain⟨x0,x1,x2,y0,y1,y2⟩:=(HP.out.2.1.2.2.below hKf).cells))
  rename_i hHeld
  clear hHeld;go_wp2_with fail;exact rSum_ret rfl ((HP.out.2.1.2.2.below hKf).store trivial trivial trivial) ⟨_,rfl,by rw[hF.out];exact HF.out.store3 (HP.out.2.1.2.2.below hKf) _ _ _,below_set3 (HP.out.2.2.trans (hKf.mono HP.out.2.2.size)) (by show w.heap.size≤w.heap.size+1+1;omega)⟩
theorem sgn_frac{s:Bool}{n d:Nat}(hd:0 < d):sgn (frac s n d).1 (frac s n d).2.1=if n=0 then 0 else if s then -1 else 1:=by
 have hz:n / Nat.gcd n d=0↔n=0:=by
  constructor
  ·intro h;have:=Nat.div_mul_cancel (Nat.gcd_dvd_left n d);rw[h,Nat.zero_mul] at this;exact this.symm
  ·intro h;rw[h,Nat.zero_div]
 have _:=hd;unfold sgn frac
 by_cases h:n=0
 ·have h2:=hz.2 h;simp [h]
 ·have h2:¬n / Nat.gcd n d=0:=fun h3=>h (hz.1 h3)
  cases s<;>simp [h,h2]
theorem fsub_ways(a b:Tq):(a.1=(!b.1 && decide (b.2.1≠0))∧fsub a b=frac a.1 (a.2.1*b.2.2+b.2.1*a.2.2) (a.2.2*b.2.2))∨
  (¬a.1=(!b.1 && decide (b.2.1≠0))∧a.2.1*b.2.2 < b.2.1*a.2.2∧fsub a b=frac (!b.1 && decide (b.2.1≠0)) (b.2.1*a.2.2 - a.2.1*b.2.2) (a.2.2*b.2.2))∨
  (¬a.1=(!b.1 && decide (b.2.1≠0))∧¬a.2.1*b.2.2 < b.2.1*a.2.2∧fsub a b=frac a.1 (a.2.1*b.2.2 - b.2.1*a.2.2) (a.2.2*b.2.2)):=by
 by_cases h:a.1=(!b.1 && decide (b.2.1≠0))
 ·exact .inl ⟨h,if_pos h⟩
 ·by_cases h2:a.2.1*b.2.2 < b.2.1*a.2.2
  ·exact .inr (.inl ⟨h,h2,(if_neg h).trans (if_pos h2)⟩)
  ·exact .inr (.inr ⟨h,h2,(if_neg h).trans (if_neg h2)⟩)
theorem sub_signs{s1 s2 z:Bool}{X Y:Nat}(hz:z=decide (Y≠0)):
  (s1=(!s2 && z)→(if X+Y=0 then (0:Int) else if s1 then -1 else 1)=cmpI (sv s1 X) (sv s2 Y))∧
  (¬s1=(!s2 && z)→X < Y→(if Y - X=0 then (0:Int) else if (!s2 && z) then -1 else 1)=cmpI (sv s1 X) (sv s2 Y))∧
  (¬s1=(!s2 && z)→¬X < Y→(if X - Y=0 then (0:Int) else if s1 then -1 else 1)=cmpI (sv s1 X) (sv s2 Y)):=by
 unfold cmpI sv
 by_cases hy:Y=0
 ·subst hy
  have:z=false:=by rw[hz];rfl
  subst this;refine⟨?_,?_,?_⟩
  all_goals
   cases s1<;>cases s2<;>simp<;>(try split)<;>(try split)<;>(try split)<;>first | rfl | omega
 ·have:z=true:=by rw[hz];exact decide_eq_true hy
  subst this;refine⟨?_,?_,?_⟩
  all_goals
   cases s1<;>cases s2<;>simp<;>(try intro)<;>(try split)<;>(try split)<;>(try split)<;>first | rfl | omega
theorem fsub_sgn{a b:Tq}(ha:0 < a.2.2)(hb:0 < b.2.2):sgn (fsub a b).1 (fsub a b).2.1=fcmp a b:=by
 have hd:0 < a.2.2*b.2.2:=Nat.mul_pos ha hb
 have e1:sv a.1 a.2.1*(b.2.2:Int)=sv a.1 (a.2.1*b.2.2):=by unfold sv;cases a.1<;>simp [Int.neg_mul]
 have e2:sv b.1 b.2.1*(a.2.2:Int)=sv b.1 (b.2.1*a.2.2):=by unfold sv;cases b.1<;>simp [Int.neg_mul]
 have hz:decide (b.2.1≠0)=decide (b.2.1*a.2.2≠0):=by
  apply decide_eq_decide.2;constructor
  ·intro h h2
   rcases Nat.mul_eq_zero.1 h2 with h3 | h3
   ·exact h h3
   ·exact absurd h3 (Nat.ne_of_gt ha)
  ·intro h h2;rw[h2,Nat.zero_mul] at h;exact h rfl
 unfold fcmp;rw[e1,e2];have hs:=sub_signs (s1:=a.1) (s2:=b.1) (X:=a.2.1*b.2.2) hz
 rcases fsub_ways a b with ⟨h,e⟩ | ⟨h,h2,e⟩ | ⟨h,h2,e⟩
 ·rw[e,sgn_frac hd];exact hs.1 h
 ·rw[e,sgn_frac hd];exact hs.2.1 h h2
 ·rw[e,sgn_frac hd];exact hs.2.2 h h2
theorem fsub_zs{a b:Tq}(ha:0 < a.2.2)(hb:0 < b.2.2):(fsub a b).2.1=0→(fsub a b).1=false:=by
 have hd:0 < a.2.2*b.2.2:=Nat.mul_pos ha hb
 rcases fsub_ways a b with ⟨h,e⟩ | ⟨h,h2,e⟩ | ⟨h,h2,e⟩
 all_goals
  rw[e]
  exact frac_zero_sign hd
theorem rDiff_any(va vb:Value)(x y:Tq)(A:Nat)(w:World)(ha:QNorm w va x)(hb:QNorm w vb y)
  (hn1:x.2.1 < B16 ^ A)(hd1:x.2.2 < B16 ^ A)(hn2:y.2.1 < B16 ^ A)(hd2:y.2.2 < B16 ^ A)(hA:A≤1000000)(h1:0 < x.2.2)(h2:0 < y.2.2):
  Calls Tryz.prog 102 #[va,vb] w fun e w'=>∃v',e=.returned v'∧QNorm w' v' (fsub x y)∧Bw w w':=by
 have HOp:=hid (fun (W:World) (hW:Bw w W)=>qopen (t:=fneg y) (Opp_any vb y W (hb.below hW)));have HSm:=hid (fun (W:World) (v:Value) (hW:Bw w W) (hq:QNorm W v (fneg y))=>qopen (t:=fsub x y) (rSum_any va v x.1 x.2.1 x.2.2 (fneg y).1 y.2.1 y.2.2 A W (ha.below hW) hq hn1 hd1 hn2 hd2 hA h1 h2));clear hn1 hd1 hn2 hd2 h1 h2 hA;obtain⟨vn1,vd1,rfl,⟨p1,k1,c1,rfl,_⟩,⟨p2,k2,c2,rfl,_⟩⟩:=ha;obtain⟨vn2,vd2,rfl,⟨p3,k3,c3,rfl,_⟩,⟨p4,k4,c4,rfl,_⟩⟩:=hb;obtain⟨s1,hs1⟩:∃s,s=x.1:=⟨_,rfl⟩;obtain⟨s2,hs2⟩:∃s,s=y.1:=⟨_,rfl⟩;rw[←hs1] at HSm ⊢;rw[←hs2] at HOp ⊢;clear hs1 hs2;obtain⟨t,ht⟩:∃t,t=fsub x y:=⟨_,rfl⟩;obtain⟨u,hu⟩:∃t,t=fneg y:=⟨_,rfl⟩;rw[←ht] at HSm ⊢;rw[←hu] at HSm HOp;clear ht hu;go_enter Tryz.func102,Tryz.ntmps102;go_wp2_with fail;have hVa:Var3 (w.alloc (.cells #[.bool s1,.slice p1 k1 c1,.slice p2 k2 c2] 40)) w.heap.size (.bool s1) (.slice p1 k1 c1) (.slice p2 k2 c2):=Var3.alloc w 40 trivial trivial trivial;have hVb:=Var3.alloc2 w (.cells #[.bool s1,.slice p1 k1 c1,.slice p2 k2 c2] 40) (x:=.bool s2) (y:=.slice p3 k3 c3) (z:=.slice p4 k4 c4) 40 trivial trivial trivial;have hVr:=Var3.alloc3 w (.cells #[.bool s1,.slice p1 k1 c1,.slice p2 k2 c2] 40) (.cells #[.bool s2,.slice p3 k3 c3,.slice p4 k4 c4] 40) (x:=.bool false) (y:=.slice none 0 0) (z:=.slice none 0 0) 40 trivial trivial trivial;have hB0:=below_alloc3 w (.cells #[.bool s1,.slice p1 k1 c1,.slice p2 k2 c2] 40) (.cells #[.bool s2,.slice p3 k3 c3,.slice p4 k4 c4] 40) (.cells #[.bool false,.slice none 0 0,.slice none 0 0] 40);have hVa':=(hVa.below ((Br _ _).alloc (Lr _) (.cells #[.bool s2,.slice p3 k3 c3,.slice p4 k4 c4] 40))).below ((Br _ _).alloc (Lr _) (.cells #[.bool false,.slice none 0 0,.slice none 0 0] 40));have hVb':=hVb.below ((Br _ _).alloc (Lr _) (.cells #[.bool false,.slice none 0 0,.slice none 0 0] 40));clear hVa hVb;generalize hW0:((w.alloc (.cells #[.bool s1,.slice p1 k1 c1,.slice p2 k2 c2] 40)).alloc (.cells #[.bool s2,.slice p3 k3 c3,.slice p4 k4 c4] 40)).alloc (.cells #[.bool false,.slice none 0 0,.slice none 0 0] 40)=W0 at *;clear hW0
 have hn2:w.heap.size+1+1≤W0.heap.size:=by obtain⟨_,h0,_⟩:=hVr;exact Nat.le_of_lt (Array.getElem?_eq_some_iff.1 h0).1
 have HV:=hid (Ai hVr hB0);have HB0:=hid hB0
 have HS:Hid (∀w',Below (w.heap.size+1+1) W0 w'→(w'.cell? ⟨w.heap.size,0,none⟩=some (.bool s1)∧w'.cell? ⟨w.heap.size,1,none⟩=some (.slice p1 k1 c1)∧w'.cell? ⟨w.heap.size,2,none⟩=some (.slice p2 k2 c2)∧w'.cell? ⟨w.heap.size+1,0,none⟩=some (.bool s2)∧w'.cell? ⟨w.heap.size+1,1,none⟩=some (.slice p3 k3 c3)∧w'.cell? ⟨w.heap.size+1,2,none⟩=some (.slice p4 k4 c4)∧Hid (Below (w.heap.size+1+1) W0 w'))):=
  hid fun w' hb=>⟨(bcellN hb _ _ (by omega)).trans hVa'.cells.1,(bcellN hb _ _ (by omega)).trans hVa'.cells.2.1,(bcellN hb _ _ (by omega)).trans hVa'.cells.2.2.1,(bcellN hb _ _ (by omega)).trans hVb'.cells.1,(bcellN hb _ _ (by omega)).trans hVb'.cells.2.1,(bcellN hb _ _ (by omega)).trans hVb'.cells.2.2.1,hid hb⟩
 clear hVa' hVb' hVr hB0
 go_region_held3 (fun w'=>w'.cell? ⟨w.heap.size,0,none⟩=some (.bool s1)∧w'.cell? ⟨w.heap.size,1,none⟩=some (.slice p1 k1 c1)∧w'.cell? ⟨w.heap.size,2,none⟩=some (.slice p2 k2 c2)∧w'.cell? ⟨w.heap.size+1,0,none⟩=some (.bool s2)∧w'.cell? ⟨w.heap.size+1,1,none⟩=some (.slice p3 k3 c3)∧w'.cell? ⟨w.heap.size+1,2,none⟩=some (.slice p4 k4 c4)∧Hid (Below (w.heap.size+1+1) W0 w'))
  (first | exact HS.out _ (Br _ _).drew | (exact HS.out _ (by assumption)) | exact HS.out _ (below_set3 (by assumption) (Lr _)))
  (first
   | (go_at_call 103;refine(HOp.out _ HB0.out.drew).mono ?_;rintro e wo ⟨so,po,ko,co,ro,lo,do1,rfl,hQo,hBo⟩;have hKo:=held_any (Br W0.heap.size W0).drew hBo;have hKo2:=below_pre hKo hn2)
   | (go_at_call 139;refine(HSm.out _ _ (HB0.out.trans (hKo.mono HB0.out.size)) hQo.out).mono ?_;rintro e wf ⟨sg,pa,ka,ca,pb,kb,cb,rfl,HF,hBf⟩;have hKf:=held_any hKo hBf;have hKf2:=below_pre hKf hn2;obtain⟨x0,x1,x2,y0,y1,y2⟩:=(HV.out.1.below hKf).cells))
 all_goals
  rename_i hHeld
  clear hHeld
  go_wp2_with fail
  exact rDiff_ret rfl ((HV.out.1.below hKf).store trivial trivial trivial) ⟨_,rfl,HF.out.store3 (HV.out.1.below hKf) _ _ _,below_set3 (HV.out.2.trans (hKf.mono HV.out.2.size)) (by show w.heap.size≤w.heap.size+1+1;omega)⟩
theorem rCmp_any(va vb:Value)(x y:Tq)(A:Nat)(w:World)(ha:QNorm w va x)(hb:QNorm w vb y)
  (hn1:x.2.1 < B16 ^ A)(hd1:x.2.2 < B16 ^ A)(hn2:y.2.1 < B16 ^ A)(hd2:y.2.2 < B16 ^ A)(hA:A≤1000000)(h1:0 < x.2.2)(h2:0 < y.2.2):
  Calls Tryz.prog 65 #[va,vb] w fun e w'=>e=.returned (.int .i64 (fcmp x y))∧Bw w w':=by
 have HDf:=hid (fun (W:World) (hW:Bw w W)=>qopen (t:=fsub x y) (rDiff_any va vb x y A W (ha.below hW) (hb.below hW) hn1 hd1 hn2 hd2 hA h1 h2));have HSg:=hid (fun (W:World) (v:Value) (hq:QNorm W v (fsub x y))=>Sgn_any v (fsub x y) W hq (fsub_zs h1 h2));rw[fsub_sgn h1 h2] at HSg;clear hn1 hd1 hn2 hd2 h1 h2 hA;obtain⟨vn1,vd1,rfl,⟨p1,k1,c1,rfl,_⟩,⟨p2,k2,c2,rfl,_⟩⟩:=ha;obtain⟨vn2,vd2,rfl,⟨p3,k3,c3,rfl,_⟩,⟨p4,k4,c4,rfl,_⟩⟩:=hb;obtain⟨s1,hs1⟩:∃s,s=x.1:=⟨_,rfl⟩;obtain⟨s2,hs2⟩:∃s,s=y.1:=⟨_,rfl⟩;rw[←hs1,←hs2] at HDf;rw[←hs1,←hs2];clear hs1 hs2;obtain⟨t,ht⟩:∃t,t=fsub x y:=⟨_,rfl⟩;obtain⟨g,hg⟩:∃t,t=fcmp x y:=⟨_,rfl⟩;rw[←ht] at HSg HDf;rw[←hg] at HSg ⊢;clear ht hg;go_enter Tryz.func65,Tryz.ntmps65;go_wp2_with fail;have hB0:=below_alloc2 w (.cells #[.bool s1,.slice p1 k1 c1,.slice p2 k2 c2] 40) (.cells #[.bool s2,.slice p3 k3 c3,.slice p4 k4 c4] 40);refine(HDf.out _ hB0).mono ?_;rintro e wo ⟨so,po,ko,co,ro,lo,do1,rfl,hQo,hBo⟩;have HB:=hid (hB0.trans (hBo.mono hB0.size));clear hB0 hBo;go_wp2_with fail;refine(HSg.out _ _ hQo.out).mono ?_;rintro e wf ⟨rfl,hBf⟩;have HZ:=hid (HB.out.trans (hBf.mono HB.out.size));go_wp2_with fail
 go_ret
 exact⟨rfl,HZ.out⟩
theorem lt_W_B6{x A:Nat}(h:x < W32 ^ 64)(hA:128≤A):x < B16 ^ A:=by
 rw[pow_two_k] at h;exact Nat.lt_of_lt_of_le h (Nat.pow_le_pow_right B16_pos (by omega))
theorem rProd_any(va vb:Value)(x y:Tq)(A:Nat)(w:World)(ha:QNorm w va x)(hb:QNorm w vb y)
  (hn1:x.2.1 < B16 ^ A)(hd1:x.2.2 < B16 ^ A)(hn2:y.2.1 < B16 ^ A)(hd2:y.2.2 < B16 ^ A)(hA:A≤1000000)(h1:0 < x.2.2)(h2:0 < y.2.2):
  Calls Tryz.prog 99 #[va,vb] w fun e w'=>∃v',e=.returned v'∧QNorm w' v' (frac (x.1 != y.1) (x.2.1*y.2.1) (x.2.2*y.2.2))∧Bw w w':=by
 have HDa:=hid (fun (W:World) (hW:Bw w W)=>den_any va x.1 x.2.1 x.2.2 W (ha.below hW));have HDb:=hid (fun (W:World) (hW:Bw w W)=>den_any vb y.1 y.2.1 y.2.2 W (hb.below hW));rw[den1_self h1] at HDa;rw[den1_self h2] at HDb;have hD0:0 < x.2.2*y.2.2:=Nat.mul_pos h1 h2;have HX:=hid (Ai (mul_b (c:=2*A) hn1 hn2 (by omega)) (mul_b (c:=2*A) hd1 hd2 (by omega)))
 have hA2:2*A≤800000000:=by omega
 have HB:=hid (Ai (Ai (b_big hn1 (by omega)) (b_big hd1 (by omega))) (Ai (b_big hn2 (by omega)) (b_big hd2 (by omega))));obtain⟨s1,hs1⟩:∃s,s=x.1:=⟨_,rfl⟩;obtain⟨s2,hs2⟩:∃s,s=y.1:=⟨_,rfl⟩;have hNew:=hid (fun (W:World) (vN vD:Value) (hN:Rep B16 W vN (x.2.1*y.2.1)) (hD:Rep B16 W vD (x.2.2*y.2.2))=>Make_open (x.1 != y.1) vN vD (x.2.1*y.2.1) (x.2.2*y.2.2) (2*A) W hN hD HX.out.1 HX.out.2 hA2 hD0);clear hn1 hd1 hn2 hd2 h1 h2 hA hA2 hD0 HX;obtain⟨vn1,vd1,rfl,hrn1,hrd1⟩:=ha;obtain⟨vn2,vd2,rfl,hrn2,hrd2⟩:=hb;have HR:=hid (Ai (Ai hrn1 hrd1) (Ai hrn2 hrd2));obtain⟨p1,k1,c1,rfl,_,_,_⟩:=hrn1;obtain⟨p2,k2,c2,rfl,_,_,_⟩:=hrd1;obtain⟨p3,k3,c3,rfl,_,_,_⟩:=hrn2;obtain⟨p4,k4,c4,rfl,_,_,_⟩:=hrd2;rw[←hs1,←hs2] at hNew;rw[←hs1] at HDa;rw[←hs2] at HDb;rw[←hs1,←hs2];clear hs1 hs2;obtain⟨n1,hn1⟩:∃n,n=x.2.1:=⟨_,rfl⟩;obtain⟨d1,hd1⟩:∃n,n=x.2.2:=⟨_,rfl⟩;obtain⟨n2,hn2⟩:∃n,n=y.2.1:=⟨_,rfl⟩;obtain⟨d2,hd2⟩:∃n,n=y.2.2:=⟨_,rfl⟩;simp only[←hn1,←hd1,←hn2,←hd2] at *;clear hn1 hd1 hn2 hd2;obtain⟨t,ht⟩:∃t,t=frac (s1 != s2) (n1*n2) (d1*d2):=⟨_,rfl⟩;rw[←ht] at hNew ⊢;clear ht;go_enter Tryz.func99,Tryz.ntmps99;go_wp2_with fail;have hVa:Var3 (w.alloc (.cells #[.bool s1,.slice p1 k1 c1,.slice p2 k2 c2] 40)) w.heap.size (.bool s1) (.slice p1 k1 c1) (.slice p2 k2 c2):=Var3.alloc w 40 trivial trivial trivial;have hVb:=Var3.alloc2 w (.cells #[.bool s1,.slice p1 k1 c1,.slice p2 k2 c2] 40) (x:=.bool s2) (y:=.slice p3 k3 c3) (z:=.slice p4 k4 c4) 40 trivial trivial trivial;have hVr:=Var3.alloc3 w (.cells #[.bool s1,.slice p1 k1 c1,.slice p2 k2 c2] 40) (.cells #[.bool s2,.slice p3 k3 c3,.slice p4 k4 c4] 40) (x:=.bool false) (y:=.slice none 0 0) (z:=.slice none 0 0) 40 trivial trivial trivial;have hB0:=below_alloc3 w (.cells #[.bool s1,.slice p1 k1 c1,.slice p2 k2 c2] 40) (.cells #[.bool s2,.slice p3 k3 c3,.slice p4 k4 c4] 40) (.cells #[.bool false,.slice none 0 0,.slice none 0 0] 40);have hVa':=(hVa.below ((Br _ _).alloc (Lr _) (.cells #[.bool s2,.slice p3 k3 c3,.slice p4 k4 c4] 40))).below ((Br _ _).alloc (Lr _) (.cells #[.bool false,.slice none 0 0,.slice none 0 0] 40));have hVb':=hVb.below ((Br _ _).alloc (Lr _) (.cells #[.bool false,.slice none 0 0,.slice none 0 0] 40));clear hVa hVb;generalize hW0:((w.alloc (.cells #[.bool s1,.slice p1 k1 c1,.slice p2 k2 c2] 40)).alloc (.cells #[.bool s2,.slice p3 k3 c3,.slice p4 k4 c4] 40)).alloc (.cells #[.bool false,.slice none 0 0,.slice none 0 0] 40)=W0 at *;clear hW0
 have hn2:w.heap.size+1+1≤W0.heap.size:=by obtain⟨_,h0,_⟩:=hVr;exact Nat.le_of_lt (Array.getElem?_eq_some_iff.1 h0).1
 have HV:=hid (Ai hVr hB0);have HB0:=hid hB0
 have HS:Hid (∀w',Below (w.heap.size+1+1) W0 w'→(w'.cell? ⟨w.heap.size,0,none⟩=some (.bool s1)∧w'.cell? ⟨w.heap.size,1,none⟩=some (.slice p1 k1 c1)∧w'.cell? ⟨w.heap.size,2,none⟩=some (.slice p2 k2 c2)∧w'.cell? ⟨w.heap.size+1,0,none⟩=some (.bool s2)∧w'.cell? ⟨w.heap.size+1,1,none⟩=some (.slice p3 k3 c3)∧w'.cell? ⟨w.heap.size+1,2,none⟩=some (.slice p4 k4 c4)∧Hid (Below (w.heap.size+1+1) W0 w'))):=
  hid fun w' hb=>⟨(bcellN hb _ _ (by omega)).trans hVa'.cells.1,(bcellN hb _ _ (by omega)).trans hVa'.cells.2.1,(bcellN hb _ _ (by omega)).trans hVa'.cells.2.2.1,(bcellN hb _ _ (by omega)).trans hVb'.cells.1,(bcellN hb _ _ (by omega)).trans hVb'.cells.2.1,(bcellN hb _ _ (by omega)).trans hVb'.cells.2.2.1,hid hb⟩
 have hMx:=hid (fun (W:World) (hW:Bw w W)=>NatMul_any _ _ n1 n2 W (HR.out.1.1.below hW) (HR.out.2.1.below hW) HB.out.1.1 HB.out.2.1);have hMd:=hid (fun (W:World) (v1 v2:Value) (hd1:Rep B16 W v1 d1) (hd2:Rep B16 W v2 d2)=>NatMul_any v1 v2 d1 d2 W hd1 hd2 HB.out.1.2 HB.out.2.2);clear hVa' hVb' hVr hB0
 go_region_held3 (fun w'=>w'.cell? ⟨w.heap.size,0,none⟩=some (.bool s1)∧w'.cell? ⟨w.heap.size,1,none⟩=some (.slice p1 k1 c1)∧w'.cell? ⟨w.heap.size,2,none⟩=some (.slice p2 k2 c2)∧w'.cell? ⟨w.heap.size+1,0,none⟩=some (.bool s2)∧w'.cell? ⟨w.heap.size+1,1,none⟩=some (.slice p3 k3 c3)∧w'.cell? ⟨w.heap.size+1,2,none⟩=some (.slice p4 k4 c4)∧Hid (Below (w.heap.size+1+1) W0 w'))
  (first | exact HS.out _ (Br _ _).drew | (exact HS.out _ (by assumption)) | exact HS.out _ (below_set3 (by assumption) (Lr _)))
  (first
   | (go_at_call_of 105 k3;refine(HDb.out _ (HB0.out.trans ((held6 (N:=w.heap.size+1+1) (W0:=W0) (by assumption)).mono (by omega)))).mono ?_;rintro e wb ⟨v5,rfl,hRb,hBb⟩;have hKb:=held_any (by first | assumption | exact(Br _ _).drew) hBb;have hKb2:=below_pre hKb hn2;obtain⟨p5,k5,c5,rfl,hx5⟩:=id hRb;clear hx5)
   | (go_at_call_of 105 k1;refine(HDa.out _ (HB0.out.trans ((held6 (N:=w.heap.size+1+1) (W0:=W0) (by assumption)).mono (by omega)))).mono ?_;rintro e wa ⟨v6,rfl,hRa,hBa⟩;have hKa:=held_any (by first | assumption | exact(Br _ _).drew) hBa;have hKa2:=below_pre hKa hn2;obtain⟨p6,k6,c6,rfl,hx6⟩:=id hRa;clear hx6)
   | (go_at_call_of 104 k1;refine(hMx.out _ (HB0.out.trans ((held6 (N:=w.heap.size+1+1) (W0:=W0) (by assumption)).mono (by omega)))).mono ?_;rintro e wx ⟨vx,rfl,hRx,hBx⟩;have hKwx:=held_any (by first | assumption | exact(Br _ _).drew) hBx;have hKwx2:=below_pre hKwx hn2)
   | (go_at_call_of 104 k6;refine(hMd.out _ _ _ (by first | exact hRa | exact hRa.below (by assumption) | exact(hRa.below hBa).below (by assumption) | exact(hRa.below hBb).below (by assumption) | exact((hRa.below hBa).below hBb).below (by assumption) | exact((hRa.below hBb).below hBa).below (by assumption) | exact((hRa.below hBb).below hBd).below (by assumption)) (by first | exact hRb | exact hRb.below (by assumption) | exact(hRb.below hBa).below (by assumption) | exact(hRb.below hBb).below (by assumption) | exact((hRb.below hBa).below hBb).below (by assumption) | exact((hRb.below hBb).below hBa).below (by assumption) | exact((hRb.below hBb).below hBd).below (by assumption))).mono ?_;rintro e wd ⟨vd,rfl,hRd,hBd⟩;have hKwd:=held_any (by first | assumption | exact(Br _ _).drew) hBd;have hKwd2:=below_pre hKwd hn2)
   | (go_at_call 47;refine(hNew.out _ _ _ (by first | exact hRx | exact hRx.below (by assumption) | exact(hRx.below hBd).below (by assumption) | exact(hRx.below hBa).below (by assumption) | exact(hRx.below hBb).below (by assumption) | exact((hRx.below hBa).below hBb).below (by assumption) | exact((hRx.below hBb).below hBa).below (by assumption) | exact((hRx.below hBb).below hBd).below (by assumption)) (by first | exact hRd | exact hRd.below (by assumption) | exact(hRd.below hBa).below (by assumption) | exact(hRd.below hBb).below (by assumption) | exact((hRd.below hBa).below hBb).below (by assumption) | exact((hRd.below hBb).below hBa).below (by assumption) | exact((hRd.below hBb).below hBd).below (by assumption))).mono ?_;rintro e wf ⟨sg,pa,ka,ca,pb,kb,cb,rfl,HF,hBf⟩;have hKf:=held_any (by first | assumption | exact(Br _ _).drew) hBf;have hKf2:=below_pre hKf hn2;obtain⟨x0,x1,x2,y0,y1,y2⟩:=(HV.out.1.below hKf).cells))
 all_goals
  rename_i hHeld
  clear hHeld
  go_wp2_with fail
  exact rProd_ret rfl ((HV.out.1.below hKf).store trivial trivial trivial) ⟨_,rfl,HF.out.store3 (HV.out.1.below hKf) _ _ _,below_set3 (HV.out.2.trans (hKf.mono HV.out.2.size)) (by show w.heap.size≤w.heap.size+1+1;omega)⟩
theorem rDiv_any(va vb:Value)(x y:Tq)(A:Nat)(w:World)(ha:QNorm w va x)(hb:QNorm w vb y)
  (hn1:x.2.1 < B16 ^ A)(hd1:x.2.2 < B16 ^ A)(hn2:y.2.1 < B16 ^ A)(hd2:y.2.2 < B16 ^ A)(hA:A≤1000000)(h1:0 < x.2.2)(h2:0 < y.2.2)(h3:0 < y.2.1):
  Calls Tryz.prog 68 #[va,vb] w fun e w'=>∃v',e=.returned v'∧QNorm w' v' (frac (x.1 != y.1) (x.2.1*y.2.2) (x.2.2*y.2.1))∧Bw w w':=by
 have HDa:=hid (fun (W:World) (hW:Bw w W)=>den_any va x.1 x.2.1 x.2.2 W (ha.below hW));have HDb:=hid (fun (W:World) (hW:Bw w W)=>den_any vb y.1 y.2.1 y.2.2 W (hb.below hW));rw[den1_self h1] at HDa;rw[den1_self h2] at HDb;have hD0:0 < x.2.2*y.2.1:=Nat.mul_pos h1 h3;have HX:=hid (Ai (mul_b (c:=2*A) hn1 hd2 (by omega)) (mul_b (c:=2*A) hd1 hn2 (by omega)))
 have hA2:2*A≤800000000:=by omega
 have HB:=hid (Ai (Ai (b_big hn1 (by omega)) (b_big hd1 (by omega))) (Ai (b_big hn2 (by omega)) (b_big hd2 (by omega))));obtain⟨s1,hs1⟩:∃s,s=x.1:=⟨_,rfl⟩;obtain⟨s2,hs2⟩:∃s,s=y.1:=⟨_,rfl⟩;have hNew:=hid (fun (W:World) (vN vD:Value) (hN:Rep B16 W vN (x.2.1*y.2.2)) (hD:Rep B16 W vD (x.2.2*y.2.1))=>Make_open (x.1 != y.1) vN vD (x.2.1*y.2.2) (x.2.2*y.2.1) (2*A) W hN hD HX.out.1 HX.out.2 hA2 hD0);clear hn1 hd1 hn2 hd2 h1 h2 hA hA2 hD0 HX;obtain⟨vn1,vd1,rfl,hrn1,hrd1⟩:=ha;obtain⟨vn2,vd2,rfl,hrn2,hrd2⟩:=hb;have HR:=hid (Ai (Ai hrn1 hrd1) (Ai hrn2 hrd2));obtain⟨p1,k1,c1,rfl,_,_,_⟩:=hrn1;obtain⟨p2,k2,c2,rfl,_,_,_⟩:=hrd1;obtain⟨p3,k3,c3,rfl,_,_,_⟩:=hrn2;obtain⟨p4,k4,c4,rfl,_,_,_⟩:=hrd2;rw[←hs1,←hs2] at hNew;rw[←hs1] at HDa;rw[←hs2] at HDb;rw[←hs1,←hs2];clear hs1 hs2;obtain⟨n1,hn1⟩:∃n,n=x.2.1:=⟨_,rfl⟩;obtain⟨d1,hd1⟩:∃n,n=x.2.2:=⟨_,rfl⟩;obtain⟨n2,hn2⟩:∃n,n=y.2.1:=⟨_,rfl⟩;obtain⟨d2,hd2⟩:∃n,n=y.2.2:=⟨_,rfl⟩;simp only[←hn1,←hd1,←hn2,←hd2] at *;clear hn1 hd1 hn2 hd2;obtain⟨t,ht⟩:∃t,t=frac (s1 != s2) (n1*d2) (d1*n2):=⟨_,rfl⟩;rw[←ht] at hNew ⊢;clear ht;go_enter Tryz.func68,Tryz.ntmps68;go_wp2_with fail;have hVa:Var3 (w.alloc (.cells #[.bool s1,.slice p1 k1 c1,.slice p2 k2 c2] 40)) w.heap.size (.bool s1) (.slice p1 k1 c1) (.slice p2 k2 c2):=Var3.alloc w 40 trivial trivial trivial;have hVb:=Var3.alloc2 w (.cells #[.bool s1,.slice p1 k1 c1,.slice p2 k2 c2] 40) (x:=.bool s2) (y:=.slice p3 k3 c3) (z:=.slice p4 k4 c4) 40 trivial trivial trivial;have hVr:=Var3.alloc3 w (.cells #[.bool s1,.slice p1 k1 c1,.slice p2 k2 c2] 40) (.cells #[.bool s2,.slice p3 k3 c3,.slice p4 k4 c4] 40) (x:=.bool false) (y:=.slice none 0 0) (z:=.slice none 0 0) 40 trivial trivial trivial;have hB0:=below_alloc3 w (.cells #[.bool s1,.slice p1 k1 c1,.slice p2 k2 c2] 40) (.cells #[.bool s2,.slice p3 k3 c3,.slice p4 k4 c4] 40) (.cells #[.bool false,.slice none 0 0,.slice none 0 0] 40);have hVa':=(hVa.below ((Br _ _).alloc (Lr _) (.cells #[.bool s2,.slice p3 k3 c3,.slice p4 k4 c4] 40))).below ((Br _ _).alloc (Lr _) (.cells #[.bool false,.slice none 0 0,.slice none 0 0] 40));have hVb':=hVb.below ((Br _ _).alloc (Lr _) (.cells #[.bool false,.slice none 0 0,.slice none 0 0] 40));clear hVa hVb;generalize hW0:((w.alloc (.cells #[.bool s1,.slice p1 k1 c1,.slice p2 k2 c2] 40)).alloc (.cells #[.bool s2,.slice p3 k3 c3,.slice p4 k4 c4] 40)).alloc (.cells #[.bool false,.slice none 0 0,.slice none 0 0] 40)=W0 at *;clear hW0
 have hn2:w.heap.size+1+1≤W0.heap.size:=by obtain⟨_,h0,_⟩:=hVr;exact Nat.le_of_lt (Array.getElem?_eq_some_iff.1 h0).1
 have HV:=hid (Ai hVr hB0);have HB0:=hid hB0
 have HS:Hid (∀w',Below (w.heap.size+1+1) W0 w'→(w'.cell? ⟨w.heap.size,0,none⟩=some (.bool s1)∧w'.cell? ⟨w.heap.size,1,none⟩=some (.slice p1 k1 c1)∧w'.cell? ⟨w.heap.size,2,none⟩=some (.slice p2 k2 c2)∧w'.cell? ⟨w.heap.size+1,0,none⟩=some (.bool s2)∧w'.cell? ⟨w.heap.size+1,1,none⟩=some (.slice p3 k3 c3)∧w'.cell? ⟨w.heap.size+1,2,none⟩=some (.slice p4 k4 c4)∧Hid (Below (w.heap.size+1+1) W0 w'))):=
  hid fun w' hb=>⟨(bcellN hb _ _ (by omega)).trans hVa'.cells.1,(bcellN hb _ _ (by omega)).trans hVa'.cells.2.1,(bcellN hb _ _ (by omega)).trans hVa'.cells.2.2.1,(bcellN hb _ _ (by omega)).trans hVb'.cells.1,(bcellN hb _ _ (by omega)).trans hVb'.cells.2.1,(bcellN hb _ _ (by omega)).trans hVb'.cells.2.2.1,hid hb⟩
 have hMx:=hid (fun (W:World) (vd:Value) (hW:Bw w W) (hd:Rep B16 W vd d2)=>NatMul_any _ vd n1 d2 W (HR.out.1.1.below hW) hd HB.out.1.1 HB.out.2.2);have hMd:=hid (fun (W:World) (vd:Value) (hW:Bw w W) (hd:Rep B16 W vd d1)=>NatMul_any vd _ d1 n2 W hd (HR.out.2.1.below hW) HB.out.1.2 HB.out.2.1);clear hVa' hVb' hVr hB0
 go_region_held3 (fun w'=>w'.cell? ⟨w.heap.size,0,none⟩=some (.bool s1)∧w'.cell? ⟨w.heap.size,1,none⟩=some (.slice p1 k1 c1)∧w'.cell? ⟨w.heap.size,2,none⟩=some (.slice p2 k2 c2)∧w'.cell? ⟨w.heap.size+1,0,none⟩=some (.bool s2)∧w'.cell? ⟨w.heap.size+1,1,none⟩=some (.slice p3 k3 c3)∧w'.cell? ⟨w.heap.size+1,2,none⟩=some (.slice p4 k4 c4)∧Hid (Below (w.heap.size+1+1) W0 w'))
  (first | exact HS.out _ (Br _ _).drew | (exact HS.out _ (by assumption)) | exact HS.out _ (below_set3 (by assumption) (Lr _)))
  (first
   | (go_at_call_of 105 k3;refine(HDb.out _ (HB0.out.trans ((held6 (N:=w.heap.size+1+1) (W0:=W0) (by assumption)).mono (by omega)))).mono ?_;rintro e wb ⟨v5,rfl,hRb,hBb⟩;have hKb:=held_any (by first | assumption | exact(Br _ _).drew) hBb;have hKb2:=below_pre hKb hn2;obtain⟨p5,k5,c5,rfl,hx5⟩:=id hRb;clear hx5)
   | (go_at_call_of 105 k1;refine(HDa.out _ (HB0.out.trans ((held6 (N:=w.heap.size+1+1) (W0:=W0) (by assumption)).mono (by omega)))).mono ?_;rintro e wa ⟨v6,rfl,hRa,hBa⟩;have hKa:=held_any (by first | assumption | exact(Br _ _).drew) hBa;have hKa2:=below_pre hKa hn2;obtain⟨p6,k6,c6,rfl,hx6⟩:=id hRa;clear hx6)
   | (go_at_call_of 104 k1;refine(hMx.out _ _ (HB0.out.trans ((held6 (N:=w.heap.size+1+1) (W0:=W0) (by assumption)).mono (by omega))) (by first | exact hRb | exact hRb.below (by assumption) | exact(hRb.below hBa).below (by assumption) | exact(hRb.below hBb).below (by assumption) | exact((hRb.below hBa).below hBb).below (by assumption) | exact((hRb.below hBb).below hBa).below (by assumption) | exact((hRb.below hBb).below hBd).below (by assumption))).mono ?_;rintro e wx ⟨vx,rfl,hRx,hBx⟩;have hKwx:=held_any (by first | assumption | exact(Br _ _).drew) hBx;have hKwx2:=below_pre hKwx hn2)
   | (go_at_call_of 104 k3;refine(hMd.out _ _ (HB0.out.trans ((held6 (N:=w.heap.size+1+1) (W0:=W0) (by assumption)).mono (by omega))) (by first | exact hRa | exact hRa.below (by assumption) | exact(hRa.below hBa).below (by assumption) | exact(hRa.below hBb).below (by assumption) | exact((hRa.below hBa).below hBb).below (by assumption) | exact((hRa.below hBb).below hBa).below (by assumption) | exact((hRa.below hBb).below hBd).below (by assumption))).mono ?_;rintro e wd ⟨vd,rfl,hRd,hBd⟩;have hKwd:=held_any (by first | assumption | exact(Br _ _).drew) hBd;have hKwd2:=below_pre hKwd hn2)
   | (go_at_call 47;refine(hNew.out _ _ _ (by first | exact hRx | exact hRx.below (by assumption) | exact(hRx.below hBd).below (by assumption) | exact(hRx.below hBa).below (by assumption) | exact(hRx.below hBb).below (by assumption) | exact((hRx.below hBa).below hBb).below (by assumption) | exact((hRx.below hBb).below hBa).below (by assumption) | exact((hRx.below hBb).below hBd).below (by assumption)) (by first | exact hRd | exact hRd.below (by assumption) | exact(hRd.below hBa).below (by assumption) | exact(hRd.below hBb).below (by assumption) | exact((hRd.below hBa).below hBb).below (by assumption) | exact((hRd.below hBb).below hBa).below (by assumption) | exact((hRd.below hBb).below hBd).below (by assumption))).mono ?_;rintro e wf ⟨sg,pa,ka,ca,pb,kb,cb,rfl,HF,hBf⟩;have hKf:=held_any (by first | assumption | exact(Br _ _).drew) hBf;have hKf2:=below_pre hKf hn2;obtain⟨x0,x1,x2,y0,y1,y2⟩:=(HV.out.1.below hKf).cells))
 all_goals
  rename_i hHeld
  clear hHeld
  go_wp2_with fail
  exact rDiv_ret rfl ((HV.out.1.below hKf).store trivial trivial trivial) ⟨_,rfl,HF.out.store3 (HV.out.1.below hKf) _ _ _,below_set3 (HV.out.2.trans (hKf.mono HV.out.2.size)) (by show w.heap.size≤w.heap.size+1+1;omega)⟩
def IsFr (t:Tq):Prop:=∃s n d,0 < d∧t=frac s n d
theorem IsFr.pos{t:Tq}(h:IsFr t):0 < t.2.2:=by obtain⟨s,n,d,hd,rfl⟩:=h;exact frac_pos hd
theorem IsFr.zs{t:Tq}(h:IsFr t):t.2.1=0→t.1=false:=by obtain⟨s,n,d,hd,rfl⟩:=h;exact frac_zero_sign hd
theorem IsFr.fr(a:Tq):IsFr (fr a):=⟨_,_,_,den1_pos _,rfl⟩
theorem IsFr.add{a b:Tq}(ha:0 < a.2.2)(hb:0 < b.2.2):IsFr (fadd a b):=by
 have hd:0 < a.2.2*b.2.2:=Nat.mul_pos ha hb
 by_cases h:a.1=b.1
 ·exact⟨_,_,_,hd,if_pos h⟩
 ·by_cases h2:a.2.1*b.2.2 < b.2.1*a.2.2
  ·exact⟨_,_,_,hd,(if_neg h).trans (if_pos h2)⟩
  ·exact⟨_,_,_,hd,(if_neg h).trans (if_neg h2)⟩
theorem IsFr.mul{a b:Tq}(ha:0 < a.2.2)(hb:0 < b.2.2):IsFr (fmul a b):=⟨_,_,_,Nat.mul_pos ha hb,rfl⟩
def botn (t:Tq):Nat:=if t.1=true∧t.2.1 % t.2.2≠0 then t.2.1 / t.2.2+1 else t.2.1 / t.2.2
def fbot (t:Tq):Tq:=frac t.1 (botn t) 1
theorem b_bigk{x a k:Nat}(h:x < B16 ^ a)(ha:a≤k):x < B16 ^ k:=Nat.lt_of_lt_of_le h (Nat.pow_le_pow_right B16_pos ha)
theorem b_8{x a:Nat}(h:x < B16 ^ a)(ha:a≤800000000):x < B16 ^ 800000000:=by
 generalize 800000000=b at *;exact b_bigk h ha
theorem Bottom_ret{W:World}{B:Nat}{x y z:Value}{tm:Array Value}{R:Ending→World→Prop}(h2:tm[2]?.getD undef=.pointer (some ⟨B,0,none⟩))(hV:Var3 W B x y z)(hR:R (.returned (.agg #[x,y,z])) W):
  bodyPost Tryz.prog Tryz.f96 R .ret {tmps:=tm,defers:=[]} W:=by
 obtain⟨c0,c1,c2,_,_,_⟩:=hV.cells;exact bodyPost_ret (v:=.agg #[x,y,z]) (by simp [results,Tryz.results96,go_sem,h2,c0,c1,c2]) rfl hR
theorem rBottom_any(v:Value)(t:Tq)(A:Nat)(w:World)(h:QNorm w v t)(hn:t.2.1 < B16 ^ A)(hd:t.2.2 < B16 ^ A)(hA1:1≤A)(hA:A≤1000000)(hp:0 < t.2.2):
  Calls Tryz.prog 96 #[v] w fun e w'=>∃v',e=.returned v'∧QNorm w' v' (fbot t)∧Bw w w':=by
 have HDa:=hid (fun (W:World) (hW:Bw w W)=>den_any v t.1 t.2.1 t.2.2 W (h.below hW));rw[den1_self hp] at HDa;obtain⟨vn1,vd1,rfl,hrn,hrd⟩:=h
 have hA8:A≤800000000:=by omega
 have HDv:=hid (fun (W:World) (v2:Value) (hW:Bw w W) (hv:Rep B16 W v2 t.2.2)=>NatDiv_any vn1 v2 t.2.1 t.2.2 W (hrn.below hW) hv (b_8 hn hA8) (b_8 hd hA8) hp);have hq:t.2.1 / t.2.2 < B16 ^ A:=Nat.lt_of_le_of_lt (Nat.div_le_self _ _) hn;have hone:1 < B16 ^ A:=Nat.lt_of_lt_of_le (by decide:1 < B16 ^ 1) (Nat.pow_le_pow_right B16_pos hA1);have HOf:=hid (fun (W:World)=>NatOf_any 1 W (by decide));have HAd:=hid (fun (W:World) (v1 v2:Value) (h1:Rep B16 W v1 (t.2.1 / t.2.2)) (h2:Rep B16 W v2 1)=>NatAdd_any v1 v2 (t.2.1 / t.2.2) 1 W h1 h2 (b_big hq (by omega)) (b_big hone (by omega)));have HMk:=hid (fun (m:Nat) (hm:m≤t.2.1 / t.2.2+1) (W:World) (v1 v2:Value) (h1:Rep B16 W v1 m) (h2:Rep B16 W v2 1)=>Make_open t.1 v1 v2 m 1 (A+1) W h1 h2 (Nat.lt_of_le_of_lt hm (add_b hq hone (Lr _))) (up_b hone) (by omega) (by decide))
 have hbn:botn t=if t.1=true∧t.2.1 % t.2.2≠0 then t.2.1 / t.2.2+1 else t.2.1 / t.2.2:=rfl
 obtain⟨r,hr⟩:∃r,r=t.2.1 % t.2.2:=⟨_,rfl⟩;obtain⟨q,hqq⟩:∃r,r=t.2.1 / t.2.2:=⟨_,rfl⟩
 show Calls _ _ _ _ fun e w'=>∃v',e=.returned v'∧QNorm w' v' (frac t.1 (botn t) 1)∧Bw w w'
 rw[←hr,←hqq] at HDv hbn;rw[←hqq] at HAd HMk;obtain⟨b,hb⟩:∃b,b=botn t:=⟨_,rfl⟩;rw[←hb] at hbn ⊢;clear hn hd hp hq hone hr hqq hb;obtain⟨p1,k1,c1,rfl,_⟩:=hrn;obtain⟨p2,k2,c2,rfl,_⟩:=hrd;obtain⟨s1,hs1⟩:∃s,s=t.1:=⟨_,rfl⟩;rw[←hs1] at HDa HMk hbn ⊢;clear hs1;have HBN:=hid hbn;clear hbn;have hal:=below_alloc2 w (.cells #[.bool s1,.slice p1 k1 c1,.slice p2 k2 c2] 40) (.cells #[.bool false,.slice none 0 0,.slice none 0 0] 40);have hV:=(Var3.alloc w (x:=.bool s1) (y:=.slice p1 k1 c1) (z:=.slice p2 k2 c2) 40 trivial trivial trivial).below ((Br _ _).alloc (Lr _) (.cells #[.bool false,.slice none 0 0,.slice none 0 0] 40));have hV2:=Var3.alloc2 w (.cells #[.bool s1,.slice p1 k1 c1,.slice p2 k2 c2] 40) (x:=.bool false) (y:=.slice none 0 0) (z:=.slice none 0 0) 40 trivial trivial trivial;go_enter Tryz.func96,Tryz.ntmps96;go_upto_region 1 with fail;generalize(w.alloc (.cells #[.bool s1,.slice p1 k1 c1,.slice p2 k2 c2] 40)).alloc (.cells #[.bool false,.slice none 0 0,.slice none 0 0] 40)=W0 at *;have HB:=hid hal;have HV:=hid (Ai hV hV2)
 have HS:Hid (∀w',Bw W0 w'→(w'.cell? ⟨w.heap.size,0,none⟩=some (.bool s1)∧w'.cell? ⟨w.heap.size,1,none⟩=some (.slice p1 k1 c1)∧w'.cell? ⟨w.heap.size,2,none⟩=some (.slice p2 k2 c2)∧Hid (Bw W0 w'))):=hid fun w' hb=>⟨(HV.out.1.below hb).cells.1,(HV.out.1.below hb).cells.2.1,(HV.out.1.below hb).cells.2.2.1,hid hb⟩
 clear hal hV hV2
 go_region_held3 (fun w'=>w'.cell? ⟨w.heap.size,0,none⟩=some (.bool s1)∧w'.cell? ⟨w.heap.size,1,none⟩=some (.slice p1 k1 c1)∧w'.cell? ⟨w.heap.size,2,none⟩=some (.slice p2 k2 c2)∧Hid (Bw W0 w'))
  (first | exact HS.out _ (Br _ _).drew | (exact HS.out _ (by assumption)))
  (first
   | (go_at_call 105;refine(HDa.out _ (HB.out.trans ((held3' (N:=W0.heap.size) (W0:=W0) (by assumption)).mono HB.out.size))).mono ?_;rintro e wb ⟨v6,rfl,hRb,hBb⟩;have hKb:=held_any (by first | assumption | exact(Br _ _).drew) hBb)
   | (go_at_call 85;refine(HDv.out _ _ (HB.out.trans ((held3' (N:=W0.heap.size) (W0:=W0) (by assumption)).mono HB.out.size)) hRb).mono ?_;rintro e wq ⟨vq,vr,rfl,hRq,hRr,hBq⟩;have hKq:=held_any (by first | assumption | exact(Br _ _).drew) hBq;obtain⟨p8,k8,c8,rfl,hkk8,hl8,_⟩:=id hRr;have hk8:=hl8.zero_iff B16_pos;clear hl8 hkk8))
 rename_i hHeld
 clear hHeld;have HV3:=hid (Ai (HV.out.1.below hKq) (HV.out.2.below hKq));have HB3:=hid (HB.out.trans (hKq.mono HB.out.size));have HRq:=hid hRq;clear HS HV HB hKq hKb hRb hBb hBq hRr hRq HDa HDv;obtain⟨x0,x1,x2,_⟩:=HV3.out.1.cells
 by_cases hc:s1=true∧r≠0
 ·obtain⟨rfl,hr0⟩:=hc;have hbe:b=q+1:=HBN.out.trans (if_pos ⟨rfl,hr0⟩);have hkp:decide (0 < k8)=true:=decide_eq_true (by have:k8≠0:=fun h=>hr0 (hk8.2 h);omega);have HM2:=hid (HMk.out b (by omega));subst hbe;clear hk8 HBN HMk hr0;go_upto_region 3 with fail;clear x0 x1 x2;go_wp2_with fail;refine(HOf.out _).mono ?_;rintro e wo ⟨v1,rfl,hR1,hB1⟩;have hRqo:=HRq.out.below hB1;go_wp2_with fail;refine(HAd.out _ _ _ hRqo hR1).mono ?_;rintro e wp ⟨v2,rfl,hR2,hB2⟩;have hst:=held_any hB1 hB2;replace HV3:=hid (Ai (HV3.out.1.below hst) (HV3.out.2.below hst));replace HB3:=hid (HB3.out.trans (hst.mono HB3.out.size));have HR2:=hid hR2;clear hst hB1 hB2 hR1 hR2 hRqo HRq hkp
  have hn1:w.heap.size+1≤wp.heap.size:=by obtain⟨_,h0,_⟩:=HV3.out.2;exact Nat.le_of_lt (Array.getElem?_eq_some_iff.1 h0).1
  have HS:Hid (∀w',Below (w.heap.size+1) wp w'→(w'.cell? ⟨w.heap.size,0,none⟩=some (.bool true)∧w'.cell? ⟨w.heap.size,1,none⟩=some (.slice p1 k1 c1)∧w'.cell? ⟨w.heap.size,2,none⟩=some (.slice p2 k2 c2)∧Hid (Below (w.heap.size+1) wp w'))):=hid fun w' hb=>⟨(bcellN hb _ _ (by omega)).trans HV3.out.1.cells.1,(bcellN hb _ _ (by omega)).trans HV3.out.1.cells.2.1,(bcellN hb _ _ (by omega)).trans HV3.out.1.cells.2.2.1,hid hb⟩
  go_upto_region 4 with fail
  go_region_held3 (fun w'=>w'.cell? ⟨w.heap.size,0,none⟩=some (.bool true)∧w'.cell? ⟨w.heap.size,1,none⟩=some (.slice p1 k1 c1)∧w'.cell? ⟨w.heap.size,2,none⟩=some (.slice p2 k2 c2)∧Hid (Below (w.heap.size+1) wp w'))
   (first | exact HS.out _ (Br _ _).drew | (exact HS.out _ (by assumption)) | exact HS.out _ (below_set3 (by assumption) (Lr _)))
   (first
    | (go_at_call 48;refine(HOf.out _).mono ?_;rintro e wo ⟨v1,rfl,hR1,hB1⟩;have hK1:=held_any (by first | assumption | exact(Br _ _).drew) hB1;have hK12:=below_pre hK1 hn1)
    | (go_at_call 47;refine(HM2.out _ _ _ (HR2.out.below hK1) hR1).mono ?_;rintro e wf ⟨sg,pa,ka,ca,pb,kb,cb,rfl,HF,hBf⟩;have hKf:=held_any (by first | assumption | exact(Br _ _).drew) hBf;have hKf2:=below_pre hKf hn1;obtain⟨x0,x1,x2,y0,y1,y2⟩:=(HV3.out.2.below hKf).cells))
  rename_i hHeld
  clear hHeld;go_wp2_with fail;exact Bottom_ret rfl ((HV3.out.2.below hKf).store trivial trivial trivial) ⟨_,rfl,HF.out.store3 (HV3.out.2.below hKf) _ _ _,below_set3 (HB3.out.trans (hKf.mono HB3.out.size)) (by omega)⟩
 ·have hbe:b=q:=HBN.out.trans (if_neg hc)
  have hdec:s1=false∨(s1=true∧k8=0):=by
   cases s1
   ·exact .inl rfl
   ·right
    refine⟨rfl,?_⟩
    rcases Nat.eq_zero_or_pos k8 with h | h
    ·exact h
    ·exact absurd ⟨rfl,fun h0=>by have:=hk8.1 h0;omega⟩ hc
  have HM2:=hid (HMk.out b (by omega));subst hbe;clear hk8 HBN HMk hc
  rcases hdec with rfl | ⟨rfl,rfl⟩
  ·have hn1:w.heap.size+1≤wq.heap.size:=by obtain⟨_,h0,_⟩:=HV3.out.2;exact Nat.le_of_lt (Array.getElem?_eq_some_iff.1 h0).1
   have HS:Hid (∀w',Below (w.heap.size+1) wq w'→(w'.cell? ⟨w.heap.size,0,none⟩=some (.bool false)∧w'.cell? ⟨w.heap.size,1,none⟩=some (.slice p1 k1 c1)∧w'.cell? ⟨w.heap.size,2,none⟩=some (.slice p2 k2 c2)∧Hid (Below (w.heap.size+1) wq w'))):=hid fun w' hb=>⟨(bcellN hb _ _ (by omega)).trans HV3.out.1.cells.1,(bcellN hb _ _ (by omega)).trans HV3.out.1.cells.2.1,(bcellN hb _ _ (by omega)).trans HV3.out.1.cells.2.2.1,hid hb⟩
   go_upto_region 4 with fail;clear x0 x1 x2
   go_region_held3 (fun w'=>w'.cell? ⟨w.heap.size,0,none⟩=some (.bool false)∧w'.cell? ⟨w.heap.size,1,none⟩=some (.slice p1 k1 c1)∧w'.cell? ⟨w.heap.size,2,none⟩=some (.slice p2 k2 c2)∧Hid (Below (w.heap.size+1) wq w'))
    (first | exact HS.out _ (Br _ _).drew | (exact HS.out _ (by assumption)) | exact HS.out _ (below_set3 (by assumption) (Lr _)))
    (first
     | (go_at_call 48;refine(HOf.out _).mono ?_;rintro e wo ⟨v1,rfl,hR1,hB1⟩;have hK1:=held_any (by first | assumption | exact(Br _ _).drew) hB1;have hK12:=below_pre hK1 hn1)
     | (go_at_call 47;refine(HM2.out _ _ _ (HRq.out.below hK1) hR1).mono ?_;rintro e wf ⟨sg,pa,ka,ca,pb,kb,cb,rfl,HF,hBf⟩;have hKf:=held_any (by first | assumption | exact(Br _ _).drew) hBf;have hKf2:=below_pre hKf hn1;obtain⟨x0,x1,x2,y0,y1,y2⟩:=(HV3.out.2.below hKf).cells))
   rename_i hHeld
   clear hHeld;go_wp2_with fail;exact Bottom_ret rfl ((HV3.out.2.below hKf).store trivial trivial trivial) ⟨_,rfl,HF.out.store3 (HV3.out.2.below hKf) _ _ _,below_set3 (HB3.out.trans (hKf.mono HB3.out.size)) (by omega)⟩
  ·have hn1:w.heap.size+1≤wq.heap.size:=by obtain⟨_,h0,_⟩:=HV3.out.2;exact Nat.le_of_lt (Array.getElem?_eq_some_iff.1 h0).1
   have HS:Hid (∀w',Below (w.heap.size+1) wq w'→(w'.cell? ⟨w.heap.size,0,none⟩=some (.bool true)∧w'.cell? ⟨w.heap.size,1,none⟩=some (.slice p1 k1 c1)∧w'.cell? ⟨w.heap.size,2,none⟩=some (.slice p2 k2 c2)∧Hid (Below (w.heap.size+1) wq w'))):=hid fun w' hb=>⟨(bcellN hb _ _ (by omega)).trans HV3.out.1.cells.1,(bcellN hb _ _ (by omega)).trans HV3.out.1.cells.2.1,(bcellN hb _ _ (by omega)).trans HV3.out.1.cells.2.2.1,hid hb⟩
   go_upto_region 4 with fail;clear x0 x1 x2
   go_region_held3 (fun w'=>w'.cell? ⟨w.heap.size,0,none⟩=some (.bool true)∧w'.cell? ⟨w.heap.size,1,none⟩=some (.slice p1 k1 c1)∧w'.cell? ⟨w.heap.size,2,none⟩=some (.slice p2 k2 c2)∧Hid (Below (w.heap.size+1) wq w'))
    (first | exact HS.out _ (Br _ _).drew | (exact HS.out _ (by assumption)) | exact HS.out _ (below_set3 (by assumption) (Lr _)))
    (first
     | (go_at_call 48;refine(HOf.out _).mono ?_;rintro e wo ⟨v1,rfl,hR1,hB1⟩;have hK1:=held_any (by first | assumption | exact(Br _ _).drew) hB1;have hK12:=below_pre hK1 hn1)
     | (go_at_call 47;refine(HM2.out _ _ _ (HRq.out.below hK1) hR1).mono ?_;rintro e wf ⟨sg,pa,ka,ca,pb,kb,cb,rfl,HF,hBf⟩;have hKf:=held_any (by first | assumption | exact(Br _ _).drew) hBf;have hKf2:=below_pre hKf hn1;obtain⟨x0,x1,x2,y0,y1,y2⟩:=(HV3.out.2.below hKf).cells))
   rename_i hHeld
   clear hHeld;go_wp2_with fail;exact Bottom_ret rfl ((HV3.out.2.below hKf).store trivial trivial trivial) ⟨_,rfl,HF.out.store3 (HV3.out.2.below hKf) _ _ _,below_set3 (HB3.out.trans (hKf.mono HB3.out.size)) (by omega)⟩
def ftop (t:Tq):Tq:=fneg (fbot (fneg t))
theorem Top_ret{W:World}{B:Nat}{x y z:Value}{tm:Array Value}{R:Ending→World→Prop}(h2:tm[2]?.getD undef=.pointer (some ⟨B,0,none⟩))(hV:Var3 W B x y z)(hR:R (.returned (.agg #[x,y,z])) W):
  bodyPost Tryz.prog Tryz.f97 R .ret {tmps:=tm,defers:=[]} W:=by
 obtain⟨c0,c1,c2,_,_,_⟩:=hV.cells;exact bodyPost_ret (v:=.agg #[x,y,z]) (by simp [results,Tryz.results97,go_sem,h2,c0,c1,c2]) rfl hR
theorem rTop_any(v:Value)(t:Tq)(A:Nat)(w:World)(h:QNorm w v t)(hn:t.2.1 < B16 ^ A)(hd:t.2.2 < B16 ^ A)(hA1:1≤A)(hA:A≤1000000)(hp:0 < t.2.2):
  Calls Tryz.prog 97 #[v] w fun e w'=>∃v',e=.returned v'∧QNorm w' v' (ftop t)∧Bw w w':=by
 have HO1:=hid (fun (W:World) (hW:Bw w W)=>qopen (t:=fneg t) (Opp_any v t W (h.below hW)));have HBo:=hid (fun (W:World) (v:Value) (hq:QNorm W v (fneg t))=>qopen (t:=fbot (fneg t)) (rBottom_any v (fneg t) A W hq hn hd hA1 hA hp));have HO2:=hid (fun (W:World) (v:Value) (hq:QNorm W v (fbot (fneg t)))=>qopen (t:=ftop t) (Opp_any v (fbot (fneg t)) W hq));clear hn hd hA1 hA hp;obtain⟨vn1,vd1,rfl,⟨p1,k1,c1,rfl,_⟩,⟨p2,k2,c2,rfl,_⟩⟩:=h;obtain⟨s1,hs1⟩:∃s,s=t.1:=⟨_,rfl⟩;rw[←hs1] at HO1 ⊢;clear hs1;obtain⟨t1,h1⟩:∃s,s=fneg t:=⟨_,rfl⟩;rw[←h1] at HO1 HBo HO2;obtain⟨t2,h2⟩:∃s,s=fbot t1:=⟨_,rfl⟩;rw[←h2] at HBo HO2;obtain⟨t3,h3⟩:∃s,s=ftop t:=⟨_,rfl⟩;rw[←h3] at HO2 ⊢;clear h1 h2 h3;have hal:=below_alloc2 w (.cells #[.bool s1,.slice p1 k1 c1,.slice p2 k2 c2] 40) (.cells #[.bool false,.slice none 0 0,.slice none 0 0] 40);have hV:=(Var3.alloc w (x:=.bool s1) (y:=.slice p1 k1 c1) (z:=.slice p2 k2 c2) 40 trivial trivial trivial).below ((Br _ _).alloc (Lr _) (.cells #[.bool false,.slice none 0 0,.slice none 0 0] 40));have hV2:=Var3.alloc2 w (.cells #[.bool s1,.slice p1 k1 c1,.slice p2 k2 c2] 40) (x:=.bool false) (y:=.slice none 0 0) (z:=.slice none 0 0) 40 trivial trivial trivial;go_enter Tryz.func97,Tryz.ntmps97;go_upto_region 1 with fail;generalize(w.alloc (.cells #[.bool s1,.slice p1 k1 c1,.slice p2 k2 c2] 40)).alloc (.cells #[.bool false,.slice none 0 0,.slice none 0 0] 40)=W0 at *;have HB:=hid hal;have HV:=hid hV2;obtain⟨a0,a1,a2,_⟩:=hV.cells;clear hal hV hV2;go_wp2_with fail;refine(HO1.out _ HB.out).mono ?_;rintro e w1 ⟨sa,pa,ka,ca,pb,kb,cb,rfl,hQ,hst⟩;clear a0 a1 a2;replace HV:=hid (HV.out.below hst);replace HB:=hid (HB.out.trans (hst.mono HB.out.size));clear hst;go_wp2_with fail;refine(HBo.out _ _ hQ.out).mono ?_;rintro e w2 ⟨sc,pc,kc,cc,pd,kd,cd,rfl,hQ2,hst⟩;replace HV:=hid (HV.out.below hst);replace HB:=hid (HB.out.trans (hst.mono HB.out.size));clear hst;go_wp2_with fail;refine(HO2.out _ _ hQ2.out).mono ?_;rintro e w3 ⟨se,pe,ke,ce,pf,kf,cf,rfl,HF,hst⟩;replace HV:=hid (HV.out.below hst);replace HB:=hid (HB.out.trans (hst.mono HB.out.size));clear hst;obtain⟨x0,x1,x2,y0,y1,y2⟩:=HV.out.cells;go_wp2_with fail;exact Top_ret rfl (HV.out.store trivial trivial trivial) ⟨_,rfl,HF.out.store3 HV.out _ _ _,below_set3 HB.out (Nat.le_succ _)⟩
end Go.Proofs.YteblinkehldghaaGreatDoor
