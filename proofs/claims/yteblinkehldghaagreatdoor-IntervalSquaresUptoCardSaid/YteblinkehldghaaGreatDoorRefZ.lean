/- The order of the reference, also of numbers whose denominator is left out. -/
import Derived.Test.YteblinkehldghaaGreatDoorRefY
set_option maxHeartbeats 8000000
set_option maxRecDepth 100000
namespace Go.Proofs.YteblinkehldghaaGreatDoor
open Go.RowKit Dg
open And renaming intro→Ai
open Nat renaming le_refl→Lr
open Go.RowKit.Below renaming refl→Br
theorem rSumR_any(r1 r2:Nat)(va vb:Value)(s1:Bool)(n1 d1:Nat)(s2:Bool)(n2 d2:Nat)(A:Nat)(w:World)(ha:QNorm w va (s1,n1,r1))(hb:QNorm w vb (s2,n2,r2))(hde1:den1 r1=d1)(hde2:den1 r2=d2)
  (hn1:n1 < B16 ^ A)(hd1:d1 < B16 ^ A)(hn2:n2 < B16 ^ A)(hd2:d2 < B16 ^ A)(hA:A≤1000000)(h1:0 < d1)(h2:0 < d2):
  Calls Tryz.prog 139 #[va,vb] w fun e w'=>∃v',e=.returned v'∧QNorm w' v' (fadd (s1,n1,d1) (s2,n2,d2))∧Bw w w':=by
 have HQa:=hid ha;have HQb:=hid hb;obtain⟨vn1,vd1,rfl,hrn1,hrd1⟩:=ha;obtain⟨vn2,vd2,rfl,hrn2,hrd2⟩:=hb;have HR:=hid (Ai (Ai hrn1 hrd1) (Ai hrn2 hrd2));obtain⟨p1,k1,c1,rfl,_,_,_⟩:=hrn1;obtain⟨p2,k2,c2,rfl,_,_,_⟩:=hrd1;obtain⟨p3,k3,c3,rfl,_,_,_⟩:=hrn2;obtain⟨p4,k4,c4,rfl,_,_,_⟩:=hrd2;have HB:=hid (Ai (Ai (b_big hn1 (by omega)) (b_big hd1 (by omega))) (Ai (b_big hn2 (by omega)) (b_big hd2 (by omega))));have HX:=hid (Ai (mul_b (c:=2*A) hn1 hd2 (by omega)) (Ai (mul_b (c:=2*A) hn2 hd1 (by omega)) (mul_b (c:=2*A) hd1 hd2 (by omega))));have hD0:0 < d1*d2:=Nat.mul_pos h1 h2;have HT:=hid (Ai hA hD0);clear hn1 hd1 hn2 hd2 h1 h2 hD0;obtain⟨t,htt⟩:∃t,t=fadd (s1,n1,d1) (s2,n2,d2):=⟨_,rfl⟩;rw[←htt];have HTT:=hid htt;clear htt;have HDa:=hid (fun (W:World) (hW:Bw w W)=>den_any _ s1 n1 r1 W (HQa.out.below hW));have HDb:=hid (fun (W:World) (hW:Bw w W)=>den_any _ s2 n2 r2 W (HQb.out.below hW));rw[hde1] at HDa;rw[hde2] at HDb;clear hde1 hde2;go_enter Tryz.func139,Tryz.ntmps139;go_upto_region 1 with fail;have hVa:Var3 (w.alloc (.cells #[.bool s1,.slice p1 k1 c1,.slice p2 k2 c2] 40)) w.heap.size (.bool s1) (.slice p1 k1 c1) (.slice p2 k2 c2):=Var3.alloc w 40 trivial trivial trivial;have hVb:=Var3.alloc2 w (.cells #[.bool s1,.slice p1 k1 c1,.slice p2 k2 c2] 40) (x:=.bool s2) (y:=.slice p3 k3 c3) (z:=.slice p4 k4 c4) 40 trivial trivial trivial;have hVr:=Var3.alloc3 w (.cells #[.bool s1,.slice p1 k1 c1,.slice p2 k2 c2] 40) (.cells #[.bool s2,.slice p3 k3 c3,.slice p4 k4 c4] 40) (x:=.bool false) (y:=.slice none 0 0) (z:=.slice none 0 0) 40 trivial trivial trivial;have hB0:=below_alloc3 w (.cells #[.bool s1,.slice p1 k1 c1,.slice p2 k2 c2] 40) (.cells #[.bool s2,.slice p3 k3 c3,.slice p4 k4 c4] 40) (.cells #[.bool false,.slice none 0 0,.slice none 0 0] 40);have hVa':=(hVa.below ((Br _ _).alloc (Lr _) (.cells #[.bool s2,.slice p3 k3 c3,.slice p4 k4 c4] 40))).below ((Br _ _).alloc (Lr _) (.cells #[.bool false,.slice none 0 0,.slice none 0 0] 40));have hVb':=hVb.below ((Br _ _).alloc (Lr _) (.cells #[.bool false,.slice none 0 0,.slice none 0 0] 40));clear hVa hVb;generalize hW0:((w.alloc (.cells #[.bool s1,.slice p1 k1 c1,.slice p2 k2 c2] 40)).alloc (.cells #[.bool s2,.slice p3 k3 c3,.slice p4 k4 c4] 40)).alloc (.cells #[.bool false,.slice none 0 0,.slice none 0 0] 40)=W0 at *;clear hW0;have HV:=hid (Ai hVa' (Ai hVb' (Ai hVr hB0)))
 have HS:Hid (∀w',Bw W0 w'→(w'.cell? ⟨w.heap.size,0,none⟩=some (.bool s1)∧w'.cell? ⟨w.heap.size,1,none⟩=some (.slice p1 k1 c1)∧w'.cell? ⟨w.heap.size,2,none⟩=some (.slice p2 k2 c2)∧w'.cell? ⟨w.heap.size+1,0,none⟩=some (.bool s2)∧w'.cell? ⟨w.heap.size+1,1,none⟩=some (.slice p3 k3 c3)∧w'.cell? ⟨w.heap.size+1,2,none⟩=some (.slice p4 k4 c4)∧Hid (Bw W0 w'))):=
  hid fun w' hb=>⟨(hVa'.below hb).cells.1,(hVa'.below hb).cells.2.1,(hVa'.below hb).cells.2.2.1,(hVb'.below hb).cells.1,(hVb'.below hb).cells.2.1,(hVb'.below hb).cells.2.2.1,hid hb⟩
 have hMx:=hid (fun (W:World) (vd:Value) (hW:Bw w W) (hd:Rep B16 W vd d2)=>NatMul_any _ vd n1 d2 W (HR.out.1.1.below hW) hd HB.out.1.1 HB.out.2.2);have hMy:=hid (fun (W:World) (vd:Value) (hW:Bw w W) (hd:Rep B16 W vd d1)=>NatMul_any _ vd n2 d1 W (HR.out.2.1.below hW) hd HB.out.2.1 HB.out.1.2);have hMd:=hid (fun (W:World) (v1 v2:Value) (hd1:Rep B16 W v1 d1) (hd2:Rep B16 W v2 d2)=>NatMul_any v1 v2 d1 d2 W hd1 hd2 HB.out.1.2 HB.out.2.2);have HB0:=hid hB0;clear hVa' hVb' hVr hB0
 go_region_held3 (fun w'=>w'.cell? ⟨w.heap.size,0,none⟩=some (.bool s1)∧w'.cell? ⟨w.heap.size,1,none⟩=some (.slice p1 k1 c1)∧w'.cell? ⟨w.heap.size,2,none⟩=some (.slice p2 k2 c2)∧w'.cell? ⟨w.heap.size+1,0,none⟩=some (.bool s2)∧w'.cell? ⟨w.heap.size+1,1,none⟩=some (.slice p3 k3 c3)∧w'.cell? ⟨w.heap.size+1,2,none⟩=some (.slice p4 k4 c4)∧Hid (Bw W0 w'))
  (first | exact HS.out _ (Br _ _).drew | (exact HS.out _ (by assumption)))
  (first
   | (go_at_call_of 105 k3;refine(HDb.out _ (HB0.out.trans ((held6 (N:=W0.heap.size) (W0:=W0) (by assumption)).mono HB0.out.size))).mono ?_;rintro e we ⟨v2,rfl,hR2,hB2⟩;have hK2:=held_any (held6 (N:=W0.heap.size) (W0:=W0) (by assumption)) hB2;obtain⟨p5,k5,c5,rfl,hx5⟩:=id hR2;clear hx5)
   | (go_at_call_of 105 k1;refine(HDa.out _ (HB0.out.trans ((held6 (N:=W0.heap.size) (W0:=W0) (by assumption)).mono HB0.out.size))).mono ?_;rintro e wf ⟨v1,rfl,hR1,hB1⟩;have hK1:=held_any (held6 (N:=W0.heap.size) (W0:=W0) (by assumption)) hB1;obtain⟨p6,k6,c6,rfl,hx6⟩:=id hR1;clear hx6)
   | (go_at_call_of 104 k1;refine(hMx.out _ _ (HB0.out.trans ((held6 (N:=W0.heap.size) (W0:=W0) (by assumption)).mono HB0.out.size)) hR2).mono ?_;rintro e wx ⟨vx,rfl,hRx,hBx⟩;have hKx:=held_any (held6 (N:=W0.heap.size) (W0:=W0) (by assumption)) hBx)
   | (go_at_call_of 104 k3;refine(hMy.out _ _ (HB0.out.trans ((held6 (N:=W0.heap.size) (W0:=W0) (by assumption)).mono HB0.out.size)) hR1).mono ?_;rintro e wy ⟨vy,rfl,hRy,hBy⟩;have hKy:=held_any (held6 (N:=W0.heap.size) (W0:=W0) (by assumption)) hBy))
 rename_i hHeld
 clear hHeld
 have HP0:Hid ((Rep B16 wy vx (n1*d2)∧Rep B16 wy vy (n2*d1))∧(Var3 wy w.heap.size (.bool s1) (.slice p1 k1 c1) (.slice p2 k2 c2)∧Var3 wy (w.heap.size+1) (.bool s2) (.slice p3 k3 c3) (.slice p4 k4 c4)∧Var3 wy (w.heap.size+1+1) (.bool false) (.slice none 0 0) (.slice none 0 0))∧Bw w wy):=
  hid ⟨⟨(hRx.below hB1).below hBy,hRy⟩,⟨HV.out.1.below hKy,HV.out.2.1.below hKy,HV.out.2.2.1.below hKy⟩,HV.out.2.2.2.trans (hKy.mono HV.out.2.2.2.size)⟩
 have HB1:Hid (Bw w wy):=hid HP0.out.2.2
 have HS1:Hid (∀w',Bw wy w'→(w'.cell? ⟨w.heap.size,0,none⟩=some (.bool s1)∧w'.cell? ⟨w.heap.size,1,none⟩=some (.slice p1 k1 c1)∧w'.cell? ⟨w.heap.size,2,none⟩=some (.slice p2 k2 c2)∧w'.cell? ⟨w.heap.size+1,0,none⟩=some (.bool s2)∧w'.cell? ⟨w.heap.size+1,1,none⟩=some (.slice p3 k3 c3)∧w'.cell? ⟨w.heap.size+1,2,none⟩=some (.slice p4 k4 c4)∧Hid (Bw wy w'))):=
  hid fun w' hb=>⟨(HP0.out.2.1.1.below hb).cells.1,(HP0.out.2.1.1.below hb).cells.2.1,(HP0.out.2.1.1.below hb).cells.2.2.1,(HP0.out.2.1.2.1.below hb).cells.1,(HP0.out.2.1.2.1.below hb).cells.2.1,(HP0.out.2.1.2.1.below hb).cells.2.2.1,hid hb⟩
 clear hRx hBx hKx hRy hBy hKy hR2 hB2 hK2 hR1 hB1 hK1 HS hMx hMy HV;obtain⟨b0,b1,b2,_,_,_⟩:=HP0.out.2.1.1.cells;obtain⟨e0,e1,e2,_,_,_⟩:=HP0.out.2.1.2.1.cells;go_upto_region 2 with fail;clear b0 b1 b2 e0 e1 e2
 go_region_held3 (fun w'=>w'.cell? ⟨w.heap.size,0,none⟩=some (.bool s1)∧w'.cell? ⟨w.heap.size,1,none⟩=some (.slice p1 k1 c1)∧w'.cell? ⟨w.heap.size,2,none⟩=some (.slice p2 k2 c2)∧w'.cell? ⟨w.heap.size+1,0,none⟩=some (.bool s2)∧w'.cell? ⟨w.heap.size+1,1,none⟩=some (.slice p3 k3 c3)∧w'.cell? ⟨w.heap.size+1,2,none⟩=some (.slice p4 k4 c4)∧Hid (Bw wy w'))
  (first | exact HS1.out _ (Br _ _).drew | (exact HS1.out _ (by assumption)))
  (first
   | (go_at_call_of 105 k3;refine(HDb.out _ (HB1.out.trans ((held6 (N:=wy.heap.size) (W0:=wy) (by assumption)).mono HB1.out.size))).mono ?_;rintro e wg ⟨v4,rfl,hR4,hB4⟩;have hK4:=held_any (held6 (N:=wy.heap.size) (W0:=wy) (by assumption)) hB4;obtain⟨p7,k7,c7,rfl,hx7⟩:=id hR4;clear hx7)
   | (go_at_call_of 105 k1;refine(HDa.out _ (HB1.out.trans ((held6 (N:=wy.heap.size) (W0:=wy) (by assumption)).mono HB1.out.size))).mono ?_;rintro e wh ⟨v3,rfl,hR3,hB3⟩;have hK3:=held_any (held6 (N:=wy.heap.size) (W0:=wy) (by assumption)) hB3;obtain⟨p8,k8,c8,rfl,hx8⟩:=id hR3;clear hx8)
   | (go_at_call 104;refine(hMd.out _ _ _ (hR3.below hB4) hR4).mono ?_;rintro e wd ⟨vd,rfl,hRd,hBd⟩;have hKd:=held_any (held6 (N:=wy.heap.size) (W0:=wy) (by assumption)) hBd))
 rename_i hHeld
 clear hHeld
 have HP:Hid ((Rep B16 wd vx (n1*d2)∧Rep B16 wd vy (n2*d1)∧Rep B16 wd vd (d1*d2))∧(Var3 wd w.heap.size (.bool s1) (.slice p1 k1 c1) (.slice p2 k2 c2)∧Var3 wd (w.heap.size+1) (.bool s2) (.slice p3 k3 c3) (.slice p4 k4 c4)∧Var3 wd (w.heap.size+1+1) (.bool false) (.slice none 0 0) (.slice none 0 0))∧Bw w wd):=
  hid ⟨⟨HP0.out.1.1.below hKd,HP0.out.1.2.below hKd,hRd⟩,⟨HP0.out.2.1.1.below hKd,HP0.out.2.1.2.1.below hKd,HP0.out.2.1.2.2.below hKd⟩,HP0.out.2.2.trans (hKd.mono HP0.out.2.2.size)⟩
 clear hRd hBd hKd hR4 hB4 hK4 hR3 hB3 hK3 HS1 hMd HR HB HP0 HB1 HB0 HDa HDb HQa HQb;obtain⟨b0,b1,b2,_,_,_⟩:=HP.out.2.1.1.cells;obtain⟨e0,e1,e2,_,_,_⟩:=HP.out.2.1.2.1.cells;clear b1 b2 e1 e2
 have hA2:2*A≤1000000000:=by have:=HT.out.1;omega
 have hA3:2*A+1≤800000000:=by have:=HT.out.1;omega
 have hC:=hid (NatCmp_any vx vy (n1*d2) (n2*d1) wd HP.out.1.1 HP.out.1.2.1 (b_big HX.out.1 hA2) (b_big HX.out.2.1 hA2));have HA3:=hid hA3;have HA2:=hid hA2;clear hA2 hA3
 have hn2:w.heap.size+1+1≤wd.heap.size:=by obtain⟨_,h0,_⟩:=HP.out.2.1.2.2;exact Nat.le_of_lt (Array.getElem?_eq_some_iff.1 h0).1
 have HE:s1=s2∨(s1≠s2∧n1*d2 < n2*d1)∨(s1≠s2∧¬n1*d2 < n2*d1):=by
  by_cases a:s1=s2<;>by_cases b:n1*d2 < n2*d1<;>simp [a,b]
 rcases HE with he | ⟨he,hl⟩ | ⟨he,hl⟩
 case inl=>
  subst he;have hOp:=hid (fun (W:World) (hW:Bw wd W)=>NatAdd_any vx vy (n1*d2) (n2*d1) W (HP.out.1.1.below hW) (HP.out.1.2.1.below hW) (b_big HX.out.1 HA2.out) (b_big HX.out.2.1 HA2.out));have hNew:=hid (fun (W:World) (vN:Value) (hN:Rep B16 W vN (n1*d2+n2*d1)) (hW:Bw wd W)=>Make_open s1 vN vd (n1*d2+n2*d1) (d1*d2) (2*A+1) W hN (HP.out.1.2.2.below hW) (add_b HX.out.1 HX.out.2.1 (Lr _)) (up_b HX.out.2.2) HA3.out HT.out.2);have hF:Hid (t=frac s1 (n1*d2+n2*d1) (d1*d2)):=hid (by rw[HTT.out];simp [fadd])
  have HS2:Hid (∀w',Below (w.heap.size+1+1) wd w'→(w'.cell? ⟨w.heap.size,0,none⟩=some (.bool s1)∧w'.cell? ⟨w.heap.size+1,0,none⟩=some (.bool s1)∧Hid (Below (w.heap.size+1+1) wd w'))):=
   hid fun w' hb=>⟨(bcellN hb _ _ (by omega)).trans HP.out.2.1.1.cells.1,(bcellN hb _ _ (by omega)).trans HP.out.2.1.2.1.cells.1,hid hb⟩
  go_wp2_with fail
  go_region_held3 (fun w'=>w'.cell? ⟨w.heap.size,0,none⟩=some (.bool s1)∧w'.cell? ⟨w.heap.size+1,0,none⟩=some (.bool s1)∧Hid (Below (w.heap.size+1+1) wd w'))
    (first | exact HS2.out _ (Br _ _).drew | (exact HS2.out _ (by assumption)) | exact HS2.out _ (below_set3 (by assumption) (Lr _)))
    (first
     | (go_at_call 137;refine(hOp.out _ (Br _ _).drew).mono ?_;rintro e wo ⟨vo,rfl,hRo,hBo⟩;have hKo:=held_any (Br _ _).drew hBo;have hKo2:=below_pre hKo hn2)
     | (go_at_call 47;refine(hNew.out _ _ hRo hKo).mono ?_;rintro e wf ⟨sg,pa,ka,ca,pb,kb,cb,rfl,HF,hBf⟩;have hKf:=held_any hKo hBf;have hKf2:=below_pre hKf hn2;obtain⟨x0,x1,x2,y0,y1,y2⟩:=(HP.out.2.1.2.2.below hKf).cells))
  rename_i hHeld
  clear hHeld;go_wp2_with fail;exact rSum_ret rfl ((HP.out.2.1.2.2.below hKf).store trivial trivial trivial) ⟨_,rfl,by rw[hF.out];exact HF.out.store3 (HP.out.2.1.2.2.below hKf) _ _ _,below_set3 (HP.out.2.2.trans (hKf.mono HP.out.2.2.size)) (by show w.heap.size≤w.heap.size+1+1;omega)⟩
 case inr.inl=>
  have hne:(s1 == s2)=false:=by cases s1<;>cases s2<;>first | rfl | exact absurd rfl he
  go_wp2_with fail;refine hC.out.mono ?_;rintro e w' ⟨rfl,q,rfl⟩;rw[show cmp3 (n1*d2) (n2*d1)=-1 from if_pos hl];have hF:Hid (t=frac s2 (n2*d1 - n1*d2) (d1*d2)):=hid (by rw[HTT.out];simp only[fadd];rw[if_neg he,if_pos hl]);have hOp:=hid (fun (W:World) (hW:Bw wd W)=>NatSub_any vy vx (n2*d1) (n1*d2) W (HP.out.1.2.1.below hW) (HP.out.1.1.below hW) (b_big HX.out.2.1 HA2.out) (Nat.le_of_lt hl));have hNew:=hid (fun (W:World) (vN:Value) (hN:Rep B16 W vN (n2*d1 - n1*d2)) (hW:Bw wd W)=>Make_open s2 vN vd (n2*d1 - n1*d2) (d1*d2) (2*A+1) W hN (HP.out.1.2.2.below hW) (sub_b HX.out.2.1) (up_b HX.out.2.2) HA3.out HT.out.2)
  have HS2:Hid (∀w',Below (w.heap.size+1+1) wd w'→(w'.cell? ⟨w.heap.size,0,none⟩=some (.bool s1)∧w'.cell? ⟨w.heap.size+1,0,none⟩=some (.bool s2)∧Hid (Below (w.heap.size+1+1) wd w'))):=
   hid fun w' hb=>⟨(bcellN hb _ _ (by omega)).trans HP.out.2.1.1.cells.1,(bcellN hb _ _ (by omega)).trans HP.out.2.1.2.1.cells.1,hid hb⟩
  go_wp2_with fail
  go_region_held3 (fun w'=>w'.cell? ⟨w.heap.size,0,none⟩=some (.bool s1)∧w'.cell? ⟨w.heap.size+1,0,none⟩=some (.bool s2)∧Hid (Below (w.heap.size+1+1) wd w'))
    (first | exact HS2.out _ (below_drewN (Br _ _) q).drew | (exact HS2.out _ (by assumption)) | exact HS2.out _ (below_set3 (by assumption) (Lr _)))
    (first
     | (go_at_call 160;refine(hOp.out _ (below_drewN (Br _ _) q).drew).mono ?_;rintro e wo ⟨vo,rfl,hRo,hBo⟩;have hKo:=held_any (below_drewN (Br _ _) q).drew hBo;have hKo2:=below_pre hKo hn2)
     | (go_at_call 47;refine(hNew.out _ _ hRo hKo).mono ?_;rintro e wf ⟨sg,pa,ka,ca,pb,kb,cb,rfl,HF,hBf⟩;have hKf:=held_any hKo hBf;have hKf2:=below_pre hKf hn2;obtain⟨x0,x1,x2,y0,y1,y2⟩:=(HP.out.2.1.2.2.below hKf).cells))
  rename_i hHeld
  clear hHeld;go_wp2_with fail;exact rSum_ret rfl ((HP.out.2.1.2.2.below hKf).store trivial trivial trivial) ⟨_,rfl,by rw[hF.out];exact HF.out.store3 (HP.out.2.1.2.2.below hKf) _ _ _,below_set3 (HP.out.2.2.trans (hKf.mono HP.out.2.2.size)) (by show w.heap.size≤w.heap.size+1+1;omega)⟩
 case inr.inr=>
  have hne:(s1 == s2)=false:=by cases s1<;>cases s2<;>first | rfl | exact absurd rfl he
  go_wp2_with fail;refine hC.out.mono ?_;rintro e w' ⟨rfl,q,rfl⟩;have hcm:=cmp3_ge0 hl;obtain⟨cm,hcm'⟩:∃cm,cm=cmp3 (n1*d2) (n2*d1):=⟨_,rfl⟩;rw[←hcm'] at hcm;rw[←hcm'];clear hcm';have hF:Hid (t=frac s1 (n1*d2 - n2*d1) (d1*d2)):=hid (by rw[HTT.out];simp only[fadd];rw[if_neg he,if_neg hl]);have hOp:=hid (fun (W:World) (hW:Bw wd W)=>NatSub_any vx vy (n1*d2) (n2*d1) W (HP.out.1.1.below hW) (HP.out.1.2.1.below hW) (b_big HX.out.1 HA2.out) (Nat.le_of_not_lt hl));have hNew:=hid (fun (W:World) (vN:Value) (hN:Rep B16 W vN (n1*d2 - n2*d1)) (hW:Bw wd W)=>Make_open s1 vN vd (n1*d2 - n2*d1) (d1*d2) (2*A+1) W hN (HP.out.1.2.2.below hW) (sub_b HX.out.1) (up_b HX.out.2.2) HA3.out HT.out.2)
  have HS2:Hid (∀w',Below (w.heap.size+1+1) wd w'→(w'.cell? ⟨w.heap.size,0,none⟩=some (.bool s1)∧w'.cell? ⟨w.heap.size+1,0,none⟩=some (.bool s2)∧Hid (Below (w.heap.size+1+1) wd w'))):=
   hid fun w' hb=>⟨(bcellN hb _ _ (by omega)).trans HP.out.2.1.1.cells.1,(bcellN hb _ _ (by omega)).trans HP.out.2.1.2.1.cells.1,hid hb⟩
  go_wp2_with fail
  go_region_held3 (fun w'=>w'.cell? ⟨w.heap.size,0,none⟩=some (.bool s1)∧w'.cell? ⟨w.heap.size+1,0,none⟩=some (.bool s2)∧Hid (Below (w.heap.size+1+1) wd w'))
    (first | exact HS2.out _ (below_drewN (Br _ _) q).drew | (exact HS2.out _ (by assumption)) | exact HS2.out _ (below_set3 (by assumption) (Lr _)))
    (first
     | (go_at_call 160;refine(hOp.out _ (below_drewN (Br _ _) q).drew).mono ?_;rintro e wo ⟨vo,rfl,hRo,hBo⟩;have hKo:=held_any (below_drewN (Br _ _) q).drew hBo;have hKo2:=below_pre hKo hn2)
     | (go_at_call 47;refine(hNew.out _ _ hRo hKo).mono ?_;rintro e wf ⟨sg,pa,ka,ca,pb,kb,cb,rfl,HF,hBf⟩;have hKf:=held_any hKo hBf;have hKf2:=below_pre hKf hn2;obtain⟨x0,x1,x2,y0,y1,y2⟩:=(HP.out.2.1.2.2.below hKf).cells))
  rename_i hHeld
  clear hHeld;go_wp2_with fail;exact rSum_ret rfl ((HP.out.2.1.2.2.below hKf).store trivial trivial trivial) ⟨_,rfl,by rw[hF.out];exact HF.out.store3 (HP.out.2.1.2.2.below hKf) _ _ _,below_set3 (HP.out.2.2.trans (hKf.mono HP.out.2.2.size)) (by show w.heap.size≤w.heap.size+1+1;omega)⟩
theorem rDiffR_any(r1 r2:Nat)(va vb:Value)(x y:Tq)(A:Nat)(w:World)(ha:QNorm w va (x.1,x.2.1,r1))(hb:QNorm w vb (y.1,y.2.1,r2))(hde1:den1 r1=x.2.2)(hde2:den1 r2=y.2.2)
  (hn1:x.2.1 < B16 ^ A)(hd1:x.2.2 < B16 ^ A)(hn2:y.2.1 < B16 ^ A)(hd2:y.2.2 < B16 ^ A)(hA:A≤1000000)(h1:0 < x.2.2)(h2:0 < y.2.2):
  Calls Tryz.prog 102 #[va,vb] w fun e w'=>∃v',e=.returned v'∧QNorm w' v' (fsub x y)∧Bw w w':=by
 have HOp:=hid (fun (W:World) (hW:Bw w W)=>qopen (t:=fneg (y.1,y.2.1,r2)) (Opp_any vb (y.1,y.2.1,r2) W (hb.below hW)));have HSm:=hid (fun (W:World) (v:Value) (hW:Bw w W) (hq:QNorm W v (fneg (y.1,y.2.1,r2)))=>qopen (t:=fsub x y) (rSumR_any r1 r2 va v x.1 x.2.1 x.2.2 (fneg y).1 y.2.1 y.2.2 A W (ha.below hW) hq hde1 hde2 hn1 hd1 hn2 hd2 hA h1 h2));clear hn1 hd1 hn2 hd2 h1 h2 hA hde1 hde2;obtain⟨vn1,vd1,rfl,⟨p1,k1,c1,rfl,_⟩,⟨p2,k2,c2,rfl,_⟩⟩:=ha;obtain⟨vn2,vd2,rfl,⟨p3,k3,c3,rfl,_⟩,⟨p4,k4,c4,rfl,_⟩⟩:=hb;obtain⟨u,hu⟩:∃t,t=fneg (y.1,y.2.1,r2):=⟨_,rfl⟩;rw[←hu] at HSm HOp;clear hu;obtain⟨s1,hs1⟩:∃s,s=x.1:=⟨_,rfl⟩;obtain⟨s2,hs2⟩:∃s,s=y.1:=⟨_,rfl⟩;rw[←hs1] at HSm ⊢;rw[←hs2] at HOp ⊢;clear hs1 hs2;obtain⟨t,ht⟩:∃t,t=fsub x y:=⟨_,rfl⟩;rw[←ht] at HSm ⊢;clear ht;go_enter Tryz.func102,Tryz.ntmps102;go_wp2_with fail;have hVa:Var3 (w.alloc (.cells #[.bool s1,.slice p1 k1 c1,.slice p2 k2 c2] 40)) w.heap.size (.bool s1) (.slice p1 k1 c1) (.slice p2 k2 c2):=Var3.alloc w 40 trivial trivial trivial;have hVb:=Var3.alloc2 w (.cells #[.bool s1,.slice p1 k1 c1,.slice p2 k2 c2] 40) (x:=.bool s2) (y:=.slice p3 k3 c3) (z:=.slice p4 k4 c4) 40 trivial trivial trivial;have hVr:=Var3.alloc3 w (.cells #[.bool s1,.slice p1 k1 c1,.slice p2 k2 c2] 40) (.cells #[.bool s2,.slice p3 k3 c3,.slice p4 k4 c4] 40) (x:=.bool false) (y:=.slice none 0 0) (z:=.slice none 0 0) 40 trivial trivial trivial;have hB0:=below_alloc3 w (.cells #[.bool s1,.slice p1 k1 c1,.slice p2 k2 c2] 40) (.cells #[.bool s2,.slice p3 k3 c3,.slice p4 k4 c4] 40) (.cells #[.bool false,.slice none 0 0,.slice none 0 0] 40);have hVa':=(hVa.below ((Br _ _).alloc (Lr _) (.cells #[.bool s2,.slice p3 k3 c3,.slice p4 k4 c4] 40))).below ((Br _ _).alloc (Lr _) (.cells #[.bool false,.slice none 0 0,.slice none 0 0] 40));have hVb':=hVb.below ((Br _ _).alloc (Lr _) (.cells #[.bool false,.slice none 0 0,.slice none 0 0] 40));clear hVa hVb;generalize hW0:((w.alloc (.cells #[.bool s1,.slice p1 k1 c1,.slice p2 k2 c2] 40)).alloc (.cells #[.bool s2,.slice p3 k3 c3,.slice p4 k4 c4] 40)).alloc (.cells #[.bool false,.slice none 0 0,.slice none 0 0] 40)=W0 at *;clear hW0
 have hn2:w.heap.size+1+1≤W0.heap.size:=by obtain⟨_,h0,_⟩:=hVr;exact Nat.le_of_lt (Array.getElem?_eq_some_iff.1 h0).1
 have HV:=hid (Ai hVr hB0);have HB0:=hid hB0
 have HS:Hid (∀w',Below (w.heap.size+1+1) W0 w'→(w'.cell? ⟨w.heap.size,0,none⟩=some (.bool s1)∧w'.cell? ⟨w.heap.size,1,none⟩=some (.slice p1 k1 c1)∧w'.cell? ⟨w.heap.size,2,none⟩=some (.slice p2 k2 c2)∧w'.cell? ⟨w.heap.size+1,0,none⟩=some (.bool s2)∧w'.cell? ⟨w.heap.size+1,1,none⟩=some (.slice p3 k3 c3)∧w'.cell? ⟨w.heap.size+1,2,none⟩=some (.slice p4 k4 c4)∧Hid (Below (w.heap.size+1+1) W0 w'))):=
  hid fun w' hb=>⟨(bcellN hb _ _ (by omega)).trans hVa'.cells.1,(bcellN hb _ _ (by omega)).trans hVa'.cells.2.1,(bcellN hb _ _ (by omega)).trans hVa'.cells.2.2.1,(bcellN hb _ _ (by omega)).trans hVb'.cells.1,(bcellN hb _ _ (by omega)).trans hVb'.cells.2.1,(bcellN hb _ _ (by omega)).trans hVb'.cells.2.2.1,hid hb⟩
 clear hVa' hVb' hVr hB0
 go_region_held3 (fun w'=>w'.cell? ⟨w.heap.size,0,none⟩=some (.bool s1)∧w'.cell? ⟨w.heap.size,1,none⟩=some (.slice p1 k1 c1)∧w'.cell? ⟨w.heap.size,2,none⟩=some (.slice p2 k2 c2)∧w'.cell? ⟨w.heap.size+1,0,none⟩=some (.bool s2)∧w'.cell? ⟨w.heap.size+1,1,none⟩=some (.slice p3 k3 c3)∧w'.cell? ⟨w.heap.size+1,2,none⟩=some (.slice p4 k4 c4)∧Hid (Below (w.heap.size+1+1) W0 w'))
  (first | exact HS.out _ (Br _ _).drew | (exact HS.out _ (by assumption)) | exact HS.out _ (below_set3 (by assumption) (Lr _)))
  (first
   | (go_at_call 103;refine(HOp.out _ HB0.out.drew).mono ?_;rintro e wo ⟨so,po,ko,co,ro,lo,do1,rfl,hQo,hBo⟩;have hKo:=held_any (Br W0.heap.size W0).drew hBo;have hKo2:=below_pre hKo hn2)
   | (go_at_call 139;refine(HSm.out _ _ (HB0.out.trans (hKo.mono HB0.out.size)) hQo.out).mono ?_;rintro e wf ⟨sg,pa,ka,ca,pb,kb,cb,rfl,HF,hBf⟩;have hKf:=held_any hKo hBf;have hKf2:=below_pre hKf hn2;obtain⟨x0,x1,x2,y0,y1,y2⟩:=(HV.out.1.below hKf).cells))
 all_goals
  rename_i hHeld
  clear hHeld
  go_wp2_with fail
  exact rDiff_ret rfl ((HV.out.1.below hKf).store trivial trivial trivial) ⟨_,rfl,HF.out.store3 (HV.out.1.below hKf) _ _ _,below_set3 (HV.out.2.trans (hKf.mono HV.out.2.size)) (by show w.heap.size≤w.heap.size+1+1;omega)⟩
theorem rCmpR_any(r1 r2:Nat)(va vb:Value)(x y:Tq)(A:Nat)(w:World)(ha:QNorm w va (x.1,x.2.1,r1))(hb:QNorm w vb (y.1,y.2.1,r2))(hde1:den1 r1=x.2.2)(hde2:den1 r2=y.2.2)
  (hn1:x.2.1 < B16 ^ A)(hd1:x.2.2 < B16 ^ A)(hn2:y.2.1 < B16 ^ A)(hd2:y.2.2 < B16 ^ A)(hA:A≤1000000)(h1:0 < x.2.2)(h2:0 < y.2.2):
  Calls Tryz.prog 65 #[va,vb] w fun e w'=>e=.returned (.int .i64 (fcmp x y))∧Bw w w':=by
 have HDf:=hid (fun (W:World) (hW:Bw w W)=>qopen (t:=fsub x y) (rDiffR_any r1 r2 va vb x y A W (ha.below hW) (hb.below hW) hde1 hde2 hn1 hd1 hn2 hd2 hA h1 h2));have HSg:=hid (fun (W:World) (v:Value) (hq:QNorm W v (fsub x y))=>Sgn_any v (fsub x y) W hq (fsub_zs h1 h2));rw[fsub_sgn h1 h2] at HSg;clear hn1 hd1 hn2 hd2 h1 h2 hA hde1 hde2;obtain⟨vn1,vd1,rfl,⟨p1,k1,c1,rfl,_⟩,⟨p2,k2,c2,rfl,_⟩⟩:=ha;obtain⟨vn2,vd2,rfl,⟨p3,k3,c3,rfl,_⟩,⟨p4,k4,c4,rfl,_⟩⟩:=hb;obtain⟨s1,hs1⟩:∃s,s=x.1:=⟨_,rfl⟩;obtain⟨s2,hs2⟩:∃s,s=y.1:=⟨_,rfl⟩;rw[←hs1,←hs2] at HDf;rw[←hs1,←hs2];clear hs1 hs2;obtain⟨t,ht⟩:∃t,t=fsub x y:=⟨_,rfl⟩;obtain⟨g,hg⟩:∃t,t=fcmp x y:=⟨_,rfl⟩;rw[←ht] at HSg HDf;rw[←hg] at HSg ⊢;clear ht hg;go_enter Tryz.func65,Tryz.ntmps65;go_wp2_with fail;have hB0:=below_alloc2 w (.cells #[.bool s1,.slice p1 k1 c1,.slice p2 k2 c2] 40) (.cells #[.bool s2,.slice p3 k3 c3,.slice p4 k4 c4] 40);refine(HDf.out _ hB0).mono ?_;rintro e wo ⟨so,po,ko,co,ro,lo,do1,rfl,hQo,hBo⟩;have HB:=hid (hB0.trans (hBo.mono hB0.size));clear hB0 hBo;go_wp2_with fail;refine(HSg.out _ _ hQo.out).mono ?_;rintro e wf ⟨rfl,hBf⟩;have HZ:=hid (HB.out.trans (hBf.mono HB.out.size));go_wp2_with fail
 go_ret
 exact⟨rfl,HZ.out⟩
theorem rCmp_zero(va vb:Value)(w:World)(ha:QNorm w va (false,0,0))(hb:QNorm w vb (false,0,0)):
  Calls Tryz.prog 65 #[va,vb] w fun e w'=>e=.returned (.int .i64 0)∧Bw w w':=
 rCmpR_any 0 0 va vb (false,0,1) (false,0,1) 1 w ha hb rfl rfl (by decide) (by decide) (by decide) (by decide) (by omega) (by decide) (by decide)
end Go.Proofs.YteblinkehldghaaGreatDoor
