/- Times on sets, Rounded, Mul and Div of the reference. -/
import Derived.Test.YteblinkehldghaaGreatDoorMulU
import Derived.Test.YteblinkehldghaaGreatDoorGrzR
import Derived.Test.YteblinkehldghaaGreatDoorPwiQ
import Derived.Test.YteblinkehldghaaGreatDoorAddK
set_option maxHeartbeats 4000000
set_option maxRecDepth 100000
namespace Go.Proofs.YteblinkehldghaaGreatDoor
open Go.RowKit Dg
open And renaming intro→Ai
theorem jTimes_e1(s1 p1 k1 c1 q1 l1 d1 sz1 pz1 kz1 cz1 qz1 lz1 dz1 x1 y1 s2 p2 k2 c2 q2 l2 d2 sz2 pz2 kz2 cz2 qz2 lz2 dz2 x2 y2 e2)(w:World):
  Calls Tryz.prog 26 #[.agg #[.bool s1,.slice p1 k1 c1,.slice q1 l1 d1,.bool sz1,.slice pz1 kz1 cz1,.slice qz1 lz1 dz1,.bool x1,.bool y1,.bool true],.agg #[.bool s2,.slice p2 k2 c2,.slice q2 l2 d2,.bool sz2,.slice pz2 kz2 cz2,.slice qz2 lz2 dz2,.bool x2,.bool y2,.bool e2]] w (JP w jnone):=by
 go_enter Tryz.func26,Tryz.ntmps26;go_upto_region 1 with fail;generalize hA:World.alloc _ _=W0;have HV:=hid (pre3_o hA nd_J nd_J nd_J);clear hA;obtain⟨m0,m1,m2,m3,m4,m5,m6,m7,m8,_⟩:=HV.out.1.cells9;obtain⟨n0,n1,n2,n3,n4,n5,n6,n7,n8,_⟩:=HV.out.2.1.cells9;go_wp2_with fail;refine(jNone_any _).mono ?_;rintro e w1 ⟨rfl,hB⟩;have HE:=hid (Ai (HV.out.2.2.1.below hB) (HV.out.2.2.2.trans (hB.mono HV.out.2.2.2.size)));clear hB m0 m1 m2 m3 m4 m5 m6 m7 m8 n0 n1 n2 n3 n4 n5 n6 n7 n8;obtain⟨g0,g1,g2,g3,g4,g5,g6,g7,g8,h0,h1,h2,h3,h4,h5,h6,h7,h8⟩:=HE.out.1.cells9;go_wp2_with fail;exact jTimes_ret rfl (HE.out.1.stores [.bool false,.slice none 0 0,.slice none 0 0,.bool false,.slice none 0 0,.slice none 0 0,.bool false,.bool false,.bool true] rfl nd_J) ⟨_,_,_,_,_,_,_,_,_,_,_,_,_,_,_,_,_,rfl,hid ⟨_,_,_,_,_,_,_,_,_,_,_,_,_,_,_,_,_,rfl,QNorm.zero _,QNorm.zero _,rfl,rfl,rfl⟩,Below.stores (k:=0) (l:=[.bool false,.slice none 0 0,.slice none 0 0,.bool false,.slice none 0 0,.slice none 0 0,.bool false,.bool false,.bool true]) HE.out.2 (by omega)⟩
theorem jTimes_e2(s1 p1 k1 c1 q1 l1 d1 sz1 pz1 kz1 cz1 qz1 lz1 dz1 x1 y1 s2 p2 k2 c2 q2 l2 d2 sz2 pz2 kz2 cz2 qz2 lz2 dz2 x2 y2)(w:World):
  Calls Tryz.prog 26 #[.agg #[.bool s1,.slice p1 k1 c1,.slice q1 l1 d1,.bool sz1,.slice pz1 kz1 cz1,.slice qz1 lz1 dz1,.bool x1,.bool y1,.bool false],.agg #[.bool s2,.slice p2 k2 c2,.slice q2 l2 d2,.bool sz2,.slice pz2 kz2 cz2,.slice qz2 lz2 dz2,.bool x2,.bool y2,.bool true]] w (JP w jnone):=by
 go_enter Tryz.func26,Tryz.ntmps26;go_upto_region 1 with fail;generalize hA:World.alloc _ _=W0;have HV:=hid (pre3_o hA nd_J nd_J nd_J);clear hA;obtain⟨m0,m1,m2,m3,m4,m5,m6,m7,m8,_⟩:=HV.out.1.cells9;obtain⟨n0,n1,n2,n3,n4,n5,n6,n7,n8,_⟩:=HV.out.2.1.cells9;go_wp2_with fail;refine(jNone_any _).mono ?_;rintro e w1 ⟨rfl,hB⟩;have HE:=hid (Ai (HV.out.2.2.1.below hB) (HV.out.2.2.2.trans (hB.mono HV.out.2.2.2.size)));clear hB m0 m1 m2 m3 m4 m5 m6 m7 m8 n0 n1 n2 n3 n4 n5 n6 n7 n8;obtain⟨g0,g1,g2,g3,g4,g5,g6,g7,g8,h0,h1,h2,h3,h4,h5,h6,h7,h8⟩:=HE.out.1.cells9;go_wp2_with fail;exact jTimes_ret rfl (HE.out.1.stores [.bool false,.slice none 0 0,.slice none 0 0,.bool false,.slice none 0 0,.slice none 0 0,.bool false,.bool false,.bool true] rfl nd_J) ⟨_,_,_,_,_,_,_,_,_,_,_,_,_,_,_,_,_,rfl,hid ⟨_,_,_,_,_,_,_,_,_,_,_,_,_,_,_,_,_,rfl,QNorm.zero _,QNorm.zero _,rfl,rfl,rfl⟩,Below.stores (k:=0) (l:=[.bool false,.slice none 0 0,.slice none 0 0,.bool false,.slice none 0 0,.slice none 0 0,.bool false,.bool false,.bool true]) HE.out.2 (by omega)⟩
theorem jTimes_none(s1 p1 k1 c1 q1 l1 d1 sz1 pz1 kz1 cz1 qz1 lz1 dz1 x1 y1 e1 s2 p2 k2 c2 q2 l2 d2 sz2 pz2 kz2 cz2 qz2 lz2 dz2 x2 y2 e2)(J K:Tj)(w:World)(h:JRep w (.agg #[.bool s1,.slice p1 k1 c1,.slice q1 l1 d1,.bool sz1,.slice pz1 kz1 cz1,.slice qz1 lz1 dz1,.bool x1,.bool y1,.bool e1]) J)(h':JRep w (.agg #[.bool s2,.slice p2 k2 c2,.slice q2 l2 d2,.bool sz2,.slice pz2 kz2 cz2,.slice qz2 lz2 dz2,.bool x2,.bool y2,.bool e2]) K)(he:J.2.2.2.2=true∨(J.2.2.2.2=false∧K.2.2.2.2=true)):
  Calls Tryz.prog 26 #[.agg #[.bool s1,.slice p1 k1 c1,.slice q1 l1 d1,.bool sz1,.slice pz1 kz1 cz1,.slice qz1 lz1 dz1,.bool x1,.bool y1,.bool e1],.agg #[.bool s2,.slice p2 k2 c2,.slice q2 l2 d2,.bool sz2,.slice pz2 kz2 cz2,.slice qz2 lz2 dz2,.bool x2,.bool y2,.bool e2]] w (JP w jnone):=by
 have w1:e1=J.2.2.2.2:=(JRep.parts s1 p1 k1 c1 q1 l1 d1 sz1 pz1 kz1 cz1 qz1 lz1 dz1 x1 y1 e1 h).2.2.2.2;have w2:e2=K.2.2.2.2:=(JRep.parts s2 p2 k2 c2 q2 l2 d2 sz2 pz2 kz2 cz2 qz2 lz2 dz2 x2 y2 e2 h').2.2.2.2
 rcases he with he | ⟨he,he'⟩
 ·rw[he] at w1;subst w1;exact jTimes_e1 s1 p1 k1 c1 q1 l1 d1 sz1 pz1 kz1 cz1 qz1 lz1 dz1 x1 y1 s2 p2 k2 c2 q2 l2 d2 sz2 pz2 kz2 cz2 qz2 lz2 dz2 x2 y2 e2 w
 ·rw[he] at w1;rw[he'] at w2;subst w1 w2;exact jTimes_e2 s1 p1 k1 c1 q1 l1 d1 sz1 pz1 kz1 cz1 qz1 lz1 dz1 x1 y1 s2 p2 k2 c2 q2 l2 d2 sz2 pz2 kz2 cz2 qz2 lz2 dz2 x2 y2 w
theorem b_dbl{x A C:Nat}(h:x < B16 ^ A*B16 ^ A)(hc:C=A+A):x < B16 ^ C:=by
 subst hc
 rwa [Nat.pow_add]
theorem b_one(A:Nat)(h:A≠0):1 < B16 ^ A:=Nat.one_lt_pow h (by decide)
theorem b_pos(A:Nat):0 < B16 ^ A:=Nat.pow_pos (by decide)
theorem den1_b{n A:Nat}(h:n < B16 ^ A)(h1:1 < B16 ^ A):den1 n < B16 ^ A:=by
 unfold den1
 split<;>assumption
theorem zrok{A lo:Tq}{x:Bool}(h:zrel A x lo)(hf:x=false→QFit A)(i:Int)(hi:x=true→i=1∨i=-1):ROk 1000 (if x then (i,false,0,0) else (0,lo))∧((if x then (i,false,0,0) else (0,lo)).1=0→esgn (if x then (i,false,0,0) else (0,lo))≠0→0 < (if x then (i,false,0,0) else (0,lo)).2.2.2):=by
 have z0:0 < B16 ^ 1000:=b_pos 1000;cases x
 ·have hq:=hf rfl
  rcases h with rfl | ⟨rfl,rfl⟩
  ·exact⟨⟨fun h=>absurd rfl h,hq.1.zs,w64_b1000 hq.2.1,w64_b1000 hq.2.2⟩,fun _ _=>hq.1.pos⟩
  ·exact⟨⟨fun h=>absurd rfl h,fun _=>rfl,z0,z0⟩,fun _ h=>absurd rfl h⟩
 ·have hi:=hi rfl;refine⟨⟨fun _=>hi,fun _=>rfl,z0,z0⟩,fun h0 _=>?_⟩;have h0:i=0:=h0;omega
theorem rtm_bg{A C:Nat}(hC:C=A+A)(h0:C≠0){x y:Int×Tq}(hx:ROk A x)(hy:ROk A y):(rtm x y).2.2.1 < B16 ^ C∧den1 (rtm x y).2.2.2 < B16 ^ C:=by
 have z0:0 < B16 ^ C:=b_pos C
 have k:(rtm x y).2.2.1 < B16 ^ C∧(rtm x y).2.2.2 < B16 ^ C:=by
  unfold rtm
  split
  ·exact⟨z0,z0⟩
  ·split
   ·exact⟨z0,z0⟩
   ·exact⟨Nat.lt_of_le_of_lt (Nat.div_le_self _ _) (b_dbl (Nat.mul_lt_mul'' hx.bn hy.bn) hC),Nat.lt_of_le_of_lt (Nat.div_le_self _ _) (b_dbl (Nat.mul_lt_mul'' hx.bd hy.bd) hC)⟩
 exact⟨k.1,den1_b k.2 (b_one C h0)⟩
theorem rtm_b{x y:Int×Tq}(hx:ROk 1000 x)(hy:ROk 1000 y):(rtm x y).2.2.1 < B16 ^ 2000∧den1 (rtm x y).2.2.2 < B16 ^ 2000:=rtm_bg (A:=1000) (C:=2000) (by decide) (by decide) hx hy
def TBd (A:Nat) (t:Int×Tq):Prop:=t.2.2.1 < B16 ^ A∧den1 t.2.2.2 < B16 ^ A
theorem TBd.inf(A:Nat)(h:A≠0)(i:Int):TBd A (i,false,0,0):=⟨b_pos A,b_one A h⟩
theorem jTimes_z{A B C D lo hi lo2 hi2:Tq}{x y u v:Bool}(z1:zrel A x lo)(z2:zrel B y hi)(z3:zrel C u lo2)(z4:zrel D v hi2)(o:pord A B x y)(o':pord C D u v)(qA:x=false→QFit A)(qB:y=false→QFit B)(qC:u=false→QFit C)(qD:v=false→QFit D):
  ∃lo3 hi3,zrel (stm (mkS A B x y) (mkS C D u v)).1.2 ((stm (mkS A B x y) (mkS C D u v)).1.1 != 0) lo3∧zrel (stm (mkS A B x y) (mkS C D u v)).2.1.2 ((stm (mkS A B x y) (mkS C D u v)).2.1.1 != 0) hi3∧
   ∀W s1 p1 k1 c1 q1 l1 d1 sz1 pz1 kz1 cz1 qz1 lz1 dz1 x1 y1 e1 s2 p2 k2 c2 q2 l2 d2 sz2 pz2 kz2 cz2 qz2 lz2 dz2 x2 y2 e2,JRep W (.agg #[.bool s1,.slice p1 k1 c1,.slice q1 l1 d1,.bool sz1,.slice pz1 kz1 cz1,.slice qz1 lz1 dz1,.bool x1,.bool y1,.bool e1]) (lo,hi,x,y,false)→JRep W (.agg #[.bool s2,.slice p2 k2 c2,.slice q2 l2 d2,.bool sz2,.slice pz2 kz2 cz2,.slice qz2 lz2 dz2,.bool x2,.bool y2,.bool e2]) (lo2,hi2,u,v,false)→Calls Tryz.prog 26 #[.agg #[.bool s1,.slice p1 k1 c1,.slice q1 l1 d1,.bool sz1,.slice pz1 kz1 cz1,.slice qz1 lz1 dz1,.bool x1,.bool y1,.bool e1],.agg #[.bool s2,.slice p2 k2 c2,.slice q2 l2 d2,.bool sz2,.slice pz2 kz2 cz2,.slice qz2 lz2 dz2,.bool x2,.bool y2,.bool e2]] W (JP W (lo3,hi3,(stm (mkS A B x y) (mkS C D u v)).1.1 != 0,(stm (mkS A B x y) (mkS C D u v)).2.1.1 != 0,false)):=by
 have sa:=mkS_sf o;have sb:=mkS_sf o';have a1:=endL_z B y z1;have a2:=endH_z A x z2;have b1:=endL_z D v z3;have b2:=endH_z C u z4;have r1:=zrok z1 qA (-1) (fun _=>.inr rfl);have r2:=zrok z2 qB 1 (fun _=>.inl rfl);have r3:=zrok z3 qC (-1) (fun _=>.inr rfl);have r4:=zrok z4 qD 1 (fun _=>.inl rfl);have k:=sa.four sb;obtain⟨⟨m1,m2⟩,_⟩:=stm_ends sa sb;have u1:=m1.uniq (fold_min k) k;have u2:=m2.uniq (fold_max k) k;have c1:=rtm_z a1 b1 sa.1 sb.1;have c2:=rtm_z a1 b2 sa.1 sb.2.1;have c3:=rtm_z a2 b1 sa.2.1 sb.1;have c4:=rtm_z a2 b2 sa.2.1 sb.2.1;have f1:=emin_ef pI_ef k.1;have f2:=emin_ef f1 k.2.1;have f3:=emin_ef f2 k.2.2.1;have g1:=emax_ef mI_ef k.1;have g2:=emax_ef g1 k.2.1;have g3:=emax_ef g2 k.2.2.1;have zl:=rL_z (rL_z (rL_z (rL_z (ZE.self _) c1 pI_ef k.1) c2 f1 k.2.1) c3 f2 k.2.2.1) c4 f3 k.2.2.2;have zm:=rM_z (rM_z (rM_z (rM_z (ZE.self _) c1 mI_ef k.1) c2 g1 k.2.1) c3 g2 k.2.2.1) c4 g3 k.2.2.2;rw[←u1] at zl;rw[←u2] at zm;obtain⟨lo3,hi3,hr,hl,hh⟩:=rT_z zl zm;refine⟨lo3,hi3,hl,hh,fun W s1 p1 k1 c1 q1 l1 d1 sz1 pz1 kz1 cz1 qz1 lz1 dz1 x1 y1 e1 s2 p2 k2 c2 q2 l2 d2 sz2 pz2 kz2 cz2 qz2 lz2 dz2 x2 y2 e2 hJ hK=>?_⟩;have w1:e1=false:=(JRep.parts s1 p1 k1 c1 q1 l1 d1 sz1 pz1 kz1 cz1 qz1 lz1 dz1 x1 y1 e1 hJ).2.2.2.2;have w2:e2=false:=(JRep.parts s2 p2 k2 c2 q2 l2 d2 sz2 pz2 kz2 cz2 qz2 lz2 dz2 x2 y2 e2 hK).2.2.2.2;subst w1 w2
 have kA:∀a,(a=endL x lo∨a=endH y hi)→ROk 1000 a∧(a.1=0→esgn a≠0→0 < a.2.2.2):=by
  intro a ha
  rcases ha with rfl | rfl
  ·exact r1
  ·exact r2
 have kB:∀a,(a=endL u lo2∨a=endH v hi2)→ROk 1000 a∧(a.1=0→esgn a≠0→0 < a.2.2.2):=by
  intro a ha
  rcases ha with rfl | rfl
  ·exact r3
  ·exact r4
 have key:=jTimes_gen s1 p1 k1 c1 q1 l1 d1 sz1 pz1 kz1 cz1 qz1 lz1 dz1 x1 y1 s2 p2 k2 c2 q2 l2 d2 sz2 pz2 kz2 cz2 qz2 lz2 dz2 x2 y2 (endL x lo) (endH y hi) (endL u lo2) (endH v hi2) (TBd 2000) W
  (hid fun W2 hW=>by
   refine(rends_any s1 p1 k1 c1 q1 l1 d1 sz1 pz1 kz1 cz1 qz1 lz1 dz1 x1 y1 false _ W2 (hJ.below hW)).mono ?_;rintro e w' ⟨i4,s4,p4,k4,c4,q4,l4,d4,i5,s5,p5,k5,c5,q5,l5,d5,rfl,hq,hB⟩;obtain⟨⟨rfl,q4'⟩,rfl,q5'⟩:=hq.out
   exact⟨s4,p4,k4,c4,q4,l4,d4,s5,p5,k5,c5,q5,l5,d5,rfl,hid ⟨q4',q5'⟩,hB⟩)
  (hid fun W2 hW=>by
   refine(rends_any s2 p2 k2 c2 q2 l2 d2 sz2 pz2 kz2 cz2 qz2 lz2 dz2 x2 y2 false _ W2 (hK.below hW)).mono ?_;rintro e w' ⟨i6,s6,p6,k6,c6,q6,l6,d6,i7,s7,p7,k7,c7,q7,l7,d7,rfl,hq,hB⟩;obtain⟨⟨rfl,q4'⟩,rfl,q5'⟩:=hq.out
   exact⟨s6,p6,k6,c6,q6,l6,d6,s7,p7,k7,c7,q7,l7,d7,rfl,hid ⟨q4',q5'⟩,hB⟩)
  (hid fun W2 s8 p8 k8 c8 q8 l8 d8 s9 p9 k9 c9 q9 l9 d9 a b ha hb q8' q9'=>by
   refine(rtimes_any a.1 s8 p8 k8 c8 q8 l8 d8 b.1 s9 p9 k9 c9 q9 l9 d9 a b 1000 W2 rfl q8' rfl q9' (kA a ha).1 (kB b hb).1 (by omega) (kA a ha).2 (kB b hb).2).mono ?_;rintro e w' ⟨i3,s3,p3,k3,c3,q3,l3,d3,rfl,hq,hB⟩;obtain⟨rfl,q3'⟩:=hq.out
   exact⟨s3,p3,k3,c3,q3,l3,d3,rfl,hid q3',hB⟩)
  (hid fun W2 s8 p8 k8 c8 q8 l8 d8 s9 p9 k9 c9 q9 l9 d9 a b ha hb q8' q9'=>rbefore_any a.1 s8 p8 k8 c8 q8 l8 d8 b.1 s9 p9 k9 c9 q9 l9 d9 a b 2000 W2 rfl q8' rfl q9' ha.1 ha.2 hb.1 hb.2 (by omega))
  (hid ⟨TBd.inf 2000 (by decide) 1,TBd.inf 2000 (by decide) (-1),fun a b ha hb=>rtm_b (kA a ha).1 (kB b hb).1⟩)
 rw[hr] at key;exact key
theorem gdn_z{P lo:Tq}(p:Nat)(h:zrel P false lo):gdn lo p=gdn P p∧gup lo p=gup P p:=by
 rcases h with rfl | ⟨rfl,rfl⟩
 ·exact⟨rfl,rfl⟩
 ·have e:gdn (false,0,0) p=gdn (false,0,1) p:=by unfold gdn botn;simp
  refine⟨e,?_⟩;show fneg (gdn (false,0,0) p)=fneg (gdn (false,0,1) p);rw[e]
theorem zrel.raw{P lo:Tq}(h:zrel P false lo)(hP:IsFr P):lo=(P.1,P.2.1,lo.2.2)∧den1 lo.2.2=P.2.2:=by
 rcases h with rfl | ⟨rfl,rfl⟩
 ·exact⟨rfl,den1_self hP.pos⟩
 ·exact⟨rfl,rfl⟩
theorem jRoundedZ(s1 p1 k1 c1 q1 l1 d1 sz1 pz1 kz1 cz1 qz1 lz1 dz1 x1 y1 e1)(P Q lo hi:Tq)(X Y:Bool)(pr:Nat)(w:World)(h:JRep w (.agg #[.bool s1,.slice p1 k1 c1,.slice q1 l1 d1,.bool sz1,.slice pz1 kz1 cz1,.slice qz1 lz1 dz1,.bool x1,.bool y1,.bool e1]) (lo,hi,X,Y,false))(z1:zrel P X lo)(z2:zrel Q Y hi)(o:pord P Q X Y)(bP:X=false→P.2.1 < W32 ^ 2100∧P.2.2 < W32 ^ 2100)(bQ:Y=false→Q.2.1 < W32 ^ 2100∧Q.2.2 < W32 ^ 2100)(hp:pr≤1000000):
  Calls Tryz.prog 25 #[.agg #[.bool s1,.slice p1 k1 c1,.slice q1 l1 d1,.bool sz1,.slice pz1 kz1 cz1,.slice qz1 lz1 dz1,.bool x1,.bool y1,.bool e1],.int .i64 (pr:Int)] w (JP w (jround (mkJ P Q X Y) pr)):=by
 obtain⟨h1,h2,hi1,hj1,he1⟩:=JRep.parts s1 p1 k1 c1 q1 l1 d1 sz1 pz1 kz1 cz1 qz1 lz1 dz1 x1 y1 e1 h
 have hd:X=false→∀W,QNorm W (.agg #[.bool s1,.slice p1 k1 c1,.slice q1 l1 d1]) lo→Calls Tryz.prog 59 #[.agg #[.bool s1,.slice p1 k1 c1,.slice q1 l1 d1],.int .i64 (pr:Int)] W fun e w'=>∃s4 p4 k4 c4 q4 l4 d4,e=.returned (.agg #[.bool s4,.slice p4 k4 c4,.slice q4 l4 d4])∧Hid (QNorm w' (.agg #[.bool s4,.slice p4 k4 c4,.slice q4 l4 d4]) (gdn lo pr))∧Bw W w':=by
  intro hx W q;subst hx;have hP:=o.1 rfl;have hr:=z1.raw hP;have hb:=bP rfl;rw[(gdn_z pr z1).1];rw[hr.1] at q;exact qopen (rGridDownR_any lo.2.2 (.agg #[.bool s1,.slice p1 k1 c1,.slice q1 l1 d1]) P pr 5000 W q hr.2 (lt_b5000 hb.1) (lt_b5000 hb.2) (by omega) hp hP.pos)
 have hu:Y=false→∀W,QNorm W (.agg #[.bool sz1,.slice pz1 kz1 cz1,.slice qz1 lz1 dz1]) hi→Calls Tryz.prog 60 #[.agg #[.bool sz1,.slice pz1 kz1 cz1,.slice qz1 lz1 dz1],.int .i64 (pr:Int)] W fun e w'=>∃s4 p4 k4 c4 q4 l4 d4,e=.returned (.agg #[.bool s4,.slice p4 k4 c4,.slice q4 l4 d4])∧Hid (QNorm w' (.agg #[.bool s4,.slice p4 k4 c4,.slice q4 l4 d4]) (gup hi pr))∧Bw W w':=by
  intro hx W q;subst hx;have hQ:=o.2.1 rfl;have hr:=z2.raw hQ;have hb:=bQ rfl;rw[(gdn_z pr z2).2];rw[hr.1] at q;exact qopen (rGridUpR_any hi.2.2 (.agg #[.bool sz1,.slice pz1 kz1 cz1,.slice qz1 lz1 dz1]) Q pr 5000 W q hr.2 (lt_b5000 hb.1) (lt_b5000 hb.2) (by omega) hp hQ.pos)
 have hi1:x1=X:=hi1;have hj1:y1=Y:=hj1;have he1:e1=false:=he1;subst hi1 hj1 he1
 have eJ:jround (mkJ P Q x1 y1) pr=(if x1 then (false,0,0) else gdn P pr,if y1 then (false,0,0) else gup Q pr,x1,y1,false):=by cases x1<;>cases y1<;>rfl
 rw[eJ]
 cases x1<;>cases y1
 ·have k:=jRounded_ff s1 p1 k1 c1 q1 l1 d1 sz1 pz1 kz1 cz1 qz1 lz1 dz1 pr lo hi w h1 h2 (hd rfl) (hu rfl);rw[(gdn_z pr z1).1,(gdn_z pr z2).2] at k;exact k
 ·have k:=jRounded_ft s1 p1 k1 c1 q1 l1 d1 sz1 pz1 kz1 cz1 qz1 lz1 dz1 pr lo hi w h1 h2 (hd rfl);rw[(gdn_z pr z1).1] at k;have z2:hi=(false,0,0):=z2;subst z2;exact k
 ·have k:=jRounded_tf s1 p1 k1 c1 q1 l1 d1 sz1 pz1 kz1 cz1 qz1 lz1 dz1 pr lo hi w h1 h2 (hu rfl);rw[(gdn_z pr z2).2] at k;have z1:lo=(false,0,0):=z1;subst z1;exact k
 ·have z1:lo=(false,0,0):=z1;have z2:hi=(false,0,0):=z2;subst z1 z2;exact jRounded_tt s1 p1 k1 c1 q1 l1 d1 sz1 pz1 kz1 cz1 qz1 lz1 dz1 pr _ _ w h1 h2
theorem jMul_ret{W:World}{B:Nat}{a0 a1 a2 a3 a4 a5 a6 a7 ev:Value}{tm:Array Value}{R:Ending→World→Prop}(h2:tm[6]?.getD undef=.pointer (some ⟨B,0,none⟩))(h3:tm[7]?.getD undef=ev)(hV:Box W B #[a0,a1,a2,a3,a4,a5,a6,a7])(hR:R (.returned (.tuple #[.agg #[a0,a1,a2,a3,a4,a5,a6,a7],ev])) W):
  bodyPost Tryz.prog Tryz.f8 R .ret {tmps:=tm,defers:=[]} W:=by
 obtain⟨g0,g1,g2,g3,g4,g5,g6,g7,_⟩:=hV.cells8;exact bodyPost_ret (v:=.tuple #[.agg #[a0,a1,a2,a3,a4,a5,a6,a7],ev]) (by simp [results,Tryz.results8,go_sem,h2,h3,g0,g1,g2,g3,g4,g5,g6,g7]) rfl hR
theorem jMul_err(s1 p1 k1 c1 q1 l1 d1 sz1 pz1 kz1 cz1 qz1 lz1 dz1 x1 y1 s2 p2 k2 c2 q2 l2 d2 sz2 pz2 kz2 cz2 qz2 lz2 dz2 x2 y2 p c)(w:World)(hc:c=1∨c=2)
  (ho:∀W,Bw w W→Calls Tryz.prog 23 #[.agg #[.bool s1,.slice p1 k1 c1,.slice q1 l1 d1,.bool sz1,.slice pz1 kz1 cz1,.slice qz1 lz1 dz1,.bool x1,.bool y1],.agg #[.bool s2,.slice p2 k2 c2,.slice q2 l2 d2,.bool sz2,.slice pz2 kz2 cz2,.slice qz2 lz2 dz2,.bool x2,.bool y2],.int .i64 p] W fun e w'=>e=.returned (.tuple #[.agg #[.bool false,.slice none 0 0,.slice none 0 0,.bool false,.slice none 0 0,.slice none 0 0,.bool false,.bool false,.bool false],.agg #[.bool false,.slice none 0 0,.slice none 0 0,.bool false,.slice none 0 0,.slice none 0 0,.bool false,.bool false,.bool false],.int .i64 c])∧Bw W w'):
  Calls Tryz.prog 8 #[.agg #[.bool s1,.slice p1 k1 c1,.slice q1 l1 d1,.bool sz1,.slice pz1 kz1 cz1,.slice qz1 lz1 dz1,.bool x1,.bool y1],.agg #[.bool s2,.slice p2 k2 c2,.slice q2 l2 d2,.bool sz2,.slice pz2 kz2 cz2,.slice qz2 lz2 dz2,.bool x2,.bool y2],.int .i64 p] w (GT w c gzero):=by
 have HL:=hid ho;clear ho
 rcases hc with rfl | rfl
 all_goals
  go_enter Tryz.func8,Tryz.ntmps8
  go_wp2_with fail
  generalize hA:World.alloc _ _=W0
  have HV:=hid (pre3_o hA nd8 nd8 nd8)
  clear hA
  refine(HL.out _ HV.out.2.2.2).mono ?_
  rintro e w1 ⟨rfl,hB1⟩
  have HE:=hid (Ai (HV.out.2.2.1.below hB1) (HV.out.2.2.2.trans (hB1.mono HV.out.2.2.2.size)))
  clear hB1
  go_upto_region 3 with fail
  have hlt:=HE.out.1.lt
  generalize hA:World.alloc _ _=W1
  have HX:Hid (Bw w1 W1):=hid (by rw[←hA];exact((Below.refl _ _).alloc (Nat.le_refl _) _).alloc (by simp) _)
  clear hA
  have HE2:=hid (Ai (HE.out.1.below HX.out) (HE.out.2.trans (HX.out.mono HE.out.2.size)))
  obtain⟨g0,g1,g2,g3,g4,g5,g6,g7,f0,f1,f2,f3,f4,f5,f6,f7⟩:=HE2.out.1.cells8
  go_wp2_with fail
  exact jMul_ret rfl rfl (HE2.out.1.stores [.bool false,.slice none 0 0,.slice none 0 0,.bool false,.slice none 0 0,.slice none 0 0,.bool false,.bool false] rfl nd8) ⟨_,_,_,_,_,_,_,_,_,_,_,_,_,_,_,_,rfl,hid (GRep.stores (k:=0) (l:=[.bool false,.slice none 0 0,.slice none 0 0,.bool false,.slice none 0 0,.slice none 0 0,.bool false,.bool false]) (GRep.zero W1) HE2.out.1 nd8),Below.stores (k:=0) (l:=[.bool false,.slice none 0 0,.slice none 0 0,.bool false,.slice none 0 0,.slice none 0 0,.bool false,.bool false]) HE2.out.2 (by omega)⟩
theorem jMul_ok(s1 p1 k1 c1 q1 l1 d1 sz1 pz1 kz1 cz1 qz1 lz1 dz1 x1 y1 s2 p2 k2 c2 q2 l2 d2 sz2 pz2 kz2 cz2 qz2 lz2 dz2 x2 y2)(J K R t:Tj)(D:Ti)(p c:Int)(w:World)
  (HL:Hid (∀W,Bw w W→Calls Tryz.prog 23 #[.agg #[.bool s1,.slice p1 k1 c1,.slice q1 l1 d1,.bool sz1,.slice pz1 kz1 cz1,.slice qz1 lz1 dz1,.bool x1,.bool y1],.agg #[.bool s2,.slice p2 k2 c2,.slice q2 l2 d2,.bool sz2,.slice pz2 kz2 cz2,.slice qz2 lz2 dz2,.bool x2,.bool y2],.int .i64 p] W fun e w'=>∃s3 p3 k3 c3 q3 l3 d3 sz3 pz3 kz3 cz3 qz3 lz3 dz3 x3 y3 e3 s4 p4 k4 c4 q4 l4 d4 sz4 pz4 kz4 cz4 qz4 lz4 dz4 x4 y4 e4,e=.returned (.tuple #[.agg #[.bool s3,.slice p3 k3 c3,.slice q3 l3 d3,.bool sz3,.slice pz3 kz3 cz3,.slice qz3 lz3 dz3,.bool x3,.bool y3,.bool e3],.agg #[.bool s4,.slice p4 k4 c4,.slice q4 l4 d4,.bool sz4,.slice pz4 kz4 cz4,.slice qz4 lz4 dz4,.bool x4,.bool y4,.bool e4],.int .i64 0])∧Hid (JRep w' (.agg #[.bool s3,.slice p3 k3 c3,.slice q3 l3 d3,.bool sz3,.slice pz3 kz3 cz3,.slice qz3 lz3 dz3,.bool x3,.bool y3,.bool e3]) J)∧Hid (JRep w' (.agg #[.bool s4,.slice p4 k4 c4,.slice q4 l4 d4,.bool sz4,.slice pz4 kz4 cz4,.slice qz4 lz4 dz4,.bool x4,.bool y4,.bool e4]) K)∧Bw W w'))
  (HP:Hid (∀W s3 p3 k3 c3 q3 l3 d3 sz3 pz3 kz3 cz3 qz3 lz3 dz3 x3 y3 e3 s4 p4 k4 c4 q4 l4 d4 sz4 pz4 kz4 cz4 qz4 lz4 dz4 x4 y4 e4,JRep W (.agg #[.bool s3,.slice p3 k3 c3,.slice q3 l3 d3,.bool sz3,.slice pz3 kz3 cz3,.slice qz3 lz3 dz3,.bool x3,.bool y3,.bool e3]) J→JRep W (.agg #[.bool s4,.slice p4 k4 c4,.slice q4 l4 d4,.bool sz4,.slice pz4 kz4 cz4,.slice qz4 lz4 dz4,.bool x4,.bool y4,.bool e4]) K→Calls Tryz.prog 26 #[.agg #[.bool s3,.slice p3 k3 c3,.slice q3 l3 d3,.bool sz3,.slice pz3 kz3 cz3,.slice qz3 lz3 dz3,.bool x3,.bool y3,.bool e3],.agg #[.bool s4,.slice p4 k4 c4,.slice q4 l4 d4,.bool sz4,.slice pz4 kz4 cz4,.slice qz4 lz4 dz4,.bool x4,.bool y4,.bool e4]] W (JP W R)))
  (HM:Hid (∀W s7 p7 k7 c7 q7 l7 d7 sz7 pz7 kz7 cz7 qz7 lz7 dz7 x7 y7 e7,JRep W (.agg #[.bool s7,.slice p7 k7 c7,.slice q7 l7 d7,.bool sz7,.slice pz7 kz7 cz7,.slice qz7 lz7 dz7,.bool x7,.bool y7,.bool e7]) R→Calls Tryz.prog 25 #[.agg #[.bool s7,.slice p7 k7 c7,.slice q7 l7 d7,.bool sz7,.slice pz7 kz7 cz7,.slice qz7 lz7 dz7,.bool x7,.bool y7,.bool e7],.int .i64 p] W (JP W t)))
  (HA:Hid (∀W s8 p8 k8 c8 q8 l8 d8 sz8 pz8 kz8 cz8 qz8 lz8 dz8 x8 y8 e8,JRep W (.agg #[.bool s8,.slice p8 k8 c8,.slice q8 l8 d8,.bool sz8,.slice pz8 kz8 cz8,.slice qz8 lz8 dz8,.bool x8,.bool y8,.bool e8]) t→Calls Tryz.prog 24 #[.agg #[.bool s8,.slice p8 k8 c8,.slice q8 l8 d8,.bool sz8,.slice pz8 kz8 cz8,.slice qz8 lz8 dz8,.bool x8,.bool y8,.bool e8]] W (GT W c D))):
  Calls Tryz.prog 8 #[.agg #[.bool s1,.slice p1 k1 c1,.slice q1 l1 d1,.bool sz1,.slice pz1 kz1 cz1,.slice qz1 lz1 dz1,.bool x1,.bool y1],.agg #[.bool s2,.slice p2 k2 c2,.slice q2 l2 d2,.bool sz2,.slice pz2 kz2 cz2,.slice qz2 lz2 dz2,.bool x2,.bool y2],.int .i64 p] w (GT w c D):=by
 go_enter Tryz.func8,Tryz.ntmps8;go_wp2_with fail;generalize hA:World.alloc _ _=W0;have HV:=hid (pre3_o hA nd8 nd8 nd8);clear hA;refine(HL.out _ HV.out.2.2.2).mono ?_;rintro e w1 ⟨s3,p3,k3,c3,q3,l3,d3,sz3,pz3,kz3,cz3,qz3,lz3,dz3,x3,y3,e3,s4,p4,k4,c4,q4,l4,d4,sz4,pz4,kz4,cz4,qz4,lz4,dz4,x4,y4,e4,rfl,hJ,hK,hB1⟩;have HE:=hid (Ai (HV.out.2.2.1.below hB1) (HV.out.2.2.2.trans (hB1.mono HV.out.2.2.2.size)));clear hB1;go_upto_region 4 with fail;have hlt:=HE.out.1.lt;generalize hA:World.alloc _ _=W1;have HX:=hid (pre2_of hA nd_J nd_J);clear hA;have HJ:=hid (hJ.out.below HX.out.2.2);have HK:=hid (hK.out.below HX.out.2.2);clear hJ hK;have HE2:=hid (Ai (HE.out.1.below HX.out.2.2) (HE.out.2.trans (HX.out.2.2.mono HE.out.2.size)));obtain⟨m0,m1,m2,m3,m4,m5,m6,m7,m8,_⟩:=HX.out.1.cells9;obtain⟨n0,n1,n2,n3,n4,n5,n6,n7,n8,_⟩:=HX.out.2.1.cells9;go_wp2_with fail;refine(HP.out _ s3 p3 k3 c3 q3 l3 d3 sz3 pz3 kz3 cz3 qz3 lz3 dz3 x3 y3 e3 s4 p4 k4 c4 q4 l4 d4 sz4 pz4 kz4 cz4 qz4 lz4 dz4 x4 y4 e4 HJ.out HK.out).mono ?_;rintro e w2 ⟨s7,p7,k7,c7,q7,l7,d7,sz7,pz7,kz7,cz7,qz7,lz7,dz7,x7,y7,e7,rfl,hM,hB2⟩;have HE3:=hid (Ai (HE2.out.1.below hB2) (HE2.out.2.trans (hB2.mono HE2.out.2.size)));clear hB2 m0 m1 m2 m3 m4 m5 m6 m7 m8 n0 n1 n2 n3 n4 n5 n6 n7 n8;go_wp2_with fail;refine(HM.out _ s7 p7 k7 c7 q7 l7 d7 sz7 pz7 kz7 cz7 qz7 lz7 dz7 x7 y7 e7 hM.out).mono ?_;rintro e w3 ⟨s8,p8,k8,c8,q8,l8,d8,sz8,pz8,kz8,cz8,qz8,lz8,dz8,x8,y8,e8,rfl,hN,hB3⟩;have HE4:=hid (Ai (HE3.out.1.below hB3) (HE3.out.2.trans (hB3.mono HE3.out.2.size)));clear hB3;go_wp2_with fail;refine(HA.out _ s8 p8 k8 c8 q8 l8 d8 sz8 pz8 kz8 cz8 qz8 lz8 dz8 x8 y8 e8 hN.out).mono ?_;rintro e w4 ⟨s5,p5,k5,c5,q5,l5,d5,sz5,pz5,kz5,cz5,qz5,lz5,dz5,x5,y5,rfl,hG,hB4⟩;have HE5:=hid (Ai (HE4.out.1.below hB4) (HE4.out.2.trans (hB4.mono HE4.out.2.size)));clear hB4;obtain⟨g0,g1,g2,g3,g4,g5,g6,g7,f0,f1,f2,f3,f4,f5,f6,f7⟩:=HE5.out.1.cells8;go_wp2_with fail;exact jMul_ret rfl rfl (HE5.out.1.stores [.bool s5,.slice p5 k5 c5,.slice q5 l5 d5,.bool sz5,.slice pz5 kz5 cz5,.slice qz5 lz5 dz5,.bool x5,.bool y5] rfl nd8) ⟨s5,p5,k5,c5,q5,l5,d5,sz5,pz5,kz5,cz5,qz5,lz5,dz5,x5,y5,rfl,hid (GRep.stores (k:=0) (l:=[.bool s5,.slice p5 k5 c5,.slice q5 l5 d5,.bool sz5,.slice pz5 kz5 cz5,.slice qz5 lz5 dz5,.bool x5,.bool y5]) hG.out HE5.out.1 nd8),Below.stores (k:=0) (l:=[.bool s5,.slice p5 k5 c5,.slice q5 l5 d5,.bool sz5,.slice pz5 kz5 cz5,.slice qz5 lz5 dz5,.bool x5,.bool y5]) HE5.out.2 (by omega)⟩
end Go.Proofs.YteblinkehldghaaGreatDoor
