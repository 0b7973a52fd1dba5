/- Products of ends and of sets, of the program. -/
import Derived.Test.YteblinkehldghaaGreatDoorPwiI
import Derived.Test.YteblinkehldghaaGreatDoorLawD
import Derived.Test.YteblinkehldghaaGreatDoorRefZ
namespace Go.Proofs.YteblinkehldghaaGreatDoor
open Go.RowKit Dg
theorem etimes_ret{W:World}{B:Nat}{a0 a1 a2 a3:Value}{tm:Array Value}{R:Ending→World→Prop}(h2:tm[4]?.getD undef=.pointer (some ⟨B,0,none⟩))(hV:Box W B #[a0,a1,a2,a3])(hR:R (.returned (.agg #[a0,a1,a2,a3])) W):
  bodyPost Tryz.prog Tryz.f53 R .ret {tmps:=tm,defers:=[]} W:=by
 obtain⟨g0,g1,g2,g3,_⟩:=hV.cells4;exact bodyPost_ret (v:=.agg #[a0,a1,a2,a3]) (by simp [results,Tryz.results53,go_sem,h2,g0,g1,g2,g3]) rfl hR
def CutET (w:World) (t:List (Nat×List Value)) (g:Int) (v5:Value) (wx:World):Prop:=v5=.int .i64 g∧Hid (QQ w t wx)
set_option maxHeartbeats 2000000 in
set_option maxRecDepth 100000 in
theorem etimes_gen(i1 s1 p1 k1 c1 q1 l1 d1 i2 s2 p2 k2 c2 q2 l2 d2)(g1 g2 g:Int)(x:Int×Tq)(w:World)(HG1:Hid (∀W,Bw w W→Calls Tryz.prog 51 #[.agg #[.int .i64 i1,.bool s1,.slice p1 k1 c1,.slice q1 l1 d1]] W fun e w'=>e=.returned (.int .i64 g1)∧Bw W w'))(HG2:Hid (∀W,Bw w W→Calls Tryz.prog 51 #[.agg #[.int .i64 i2,.bool s2,.slice p2 k2 c2,.slice q2 l2 d2]] W fun e w'=>e=.returned (.int .i64 g2)∧Bw W w'))(hg:IntKind.i64.wrap (g1*g2)=g)
  (H:(g == 0)=true∧x=(0,false,0,1)∨(g == 0)=false∧(((i1 != 0)=true∨(i1 != 0)=false∧(i2 != 0)=true)∧x=(g,false,0,0)∨((i1 != 0)=false∧(i2 != 0)=false)∧∃r,x=(0,r)∧Hid (∀W,Bw w W→Calls Tryz.prog 91 #[.agg #[.bool s1,.slice p1 k1 c1,.slice q1 l1 d1],.agg #[.bool s2,.slice p2 k2 c2,.slice q2 l2 d2]] W fun e w'=>∃s3 p3 k3 c3 q3 l3 d3,e=.returned (.agg #[.bool s3,.slice p3 k3 c3,.slice q3 l3 d3])∧Hid (FNorm w' (.agg #[.bool s3,.slice p3 k3 c3,.slice q3 l3 d3]) r)∧Bw W w'))):
  Calls Tryz.prog 53 #[.agg #[.int .i64 i1,.bool s1,.slice p1 k1 c1,.slice q1 l1 d1],.agg #[.int .i64 i2,.bool s2,.slice p2 k2 c2,.slice q2 l2 d2]] w (EP w x):=by
 have HH:=hid H;have Hg:=hid hg;clear H hg;go_enter Tryz.func53,Tryz.ntmps53;go_upto_region 1 with fail;generalize hA:World.alloc _ _=W0;have HV:=hid (pre3_o hA nd4 nd4 nd4);clear hA
 go_cut [5] from 6 (fun v5 wx=>CutET w [(w.heap.size,[.int .i64 i1,.bool s1,.slice p1 k1 c1,.slice q1 l1 d1]),(w.heap.size+1,[.int .i64 i2,.bool s2,.slice p2 k2 c2,.slice q2 l2 d2]),(w.heap.size+1+1,[.int .i64 0,.bool false,.slice none 0 0,.slice none 0 0])] g v5 wx)
 case first=>
  have HQ:=hid (QQ.i3 (cs:=[.int .i64 i1,.bool s1,.slice p1 k1 c1,.slice q1 l1 d1]) (cs':=[.int .i64 i2,.bool s2,.slice p2 k2 c2,.slice q2 l2 d2]) (c2:=[.int .i64 0,.bool false,.slice none 0 0,.slice none 0 0]) HV.out.1 HV.out.2.1 HV.out.2.2.1 HV.out.2.2.2)
  have HS:Hid (∀w',QQ w [(w.heap.size,[.int .i64 i1,.bool s1,.slice p1 k1 c1,.slice q1 l1 d1]),(w.heap.size+1,[.int .i64 i2,.bool s2,.slice p2 k2 c2,.slice q2 l2 d2]),(w.heap.size+1+1,[.int .i64 0,.bool false,.slice none 0 0,.slice none 0 0])] w'→(w'.cell? ⟨w.heap.size,0,none⟩=some (.int .i64 i1)∧w'.cell? ⟨w.heap.size,1,none⟩=some (.bool s1)∧w'.cell? ⟨w.heap.size,2,none⟩=some (.slice p1 k1 c1)∧w'.cell? ⟨w.heap.size,3,none⟩=some (.slice q1 l1 d1)∧w'.cell? ⟨w.heap.size+1,0,none⟩=some (.int .i64 i2)∧w'.cell? ⟨w.heap.size+1,1,none⟩=some (.bool s2)∧w'.cell? ⟨w.heap.size+1,2,none⟩=some (.slice p2 k2 c2)∧w'.cell? ⟨w.heap.size+1,3,none⟩=some (.slice q2 l2 d2)∧Hid (QQ w [(w.heap.size,[.int .i64 i1,.bool s1,.slice p1 k1 c1,.slice q1 l1 d1]),(w.heap.size+1,[.int .i64 i2,.bool s2,.slice p2 k2 c2,.slice q2 l2 d2]),(w.heap.size+1+1,[.int .i64 0,.bool false,.slice none 0 0,.slice none 0 0])] w'))):=
   hid fun w' hb=>⟨(hb.b1.cells4).1,(hb.b1.cells4).2.1,(hb.b1.cells4).2.2.1,(hb.b1.cells4).2.2.2.1,(hb.b2.cells4).1,(hb.b2.cells4).2.1,(hb.b2.cells4).2.2.1,(hb.b2.cells4).2.2.2.1,hid hb⟩
  go_region_held3 (fun w'=>w'.cell? ⟨w.heap.size,0,none⟩=some (.int .i64 i1)∧w'.cell? ⟨w.heap.size,1,none⟩=some (.bool s1)∧w'.cell? ⟨w.heap.size,2,none⟩=some (.slice p1 k1 c1)∧w'.cell? ⟨w.heap.size,3,none⟩=some (.slice q1 l1 d1)∧w'.cell? ⟨w.heap.size+1,0,none⟩=some (.int .i64 i2)∧w'.cell? ⟨w.heap.size+1,1,none⟩=some (.bool s2)∧w'.cell? ⟨w.heap.size+1,2,none⟩=some (.slice p2 k2 c2)∧w'.cell? ⟨w.heap.size+1,3,none⟩=some (.slice q2 l2 d2)∧Hid (QQ w [(w.heap.size,[.int .i64 i1,.bool s1,.slice p1 k1 c1,.slice q1 l1 d1]),(w.heap.size+1,[.int .i64 i2,.bool s2,.slice p2 k2 c2,.slice q2 l2 d2]),(w.heap.size+1+1,[.int .i64 0,.bool false,.slice none 0 0,.slice none 0 0])] w'))
   (first | (refine HS.out _ ?_;first | (with_reducible exact HQ.out.drew) | (with_reducible assumption)))
   (first
    | (go_at_call_of 51 p1;refine(HG1.out _ (by first | exact hQ.bel | exact HQ.out.drew.bel)).mono ?_;rintro e wa ⟨rfl,hB⟩;(first | have hQ2:=hQ.call hB | have hQ:=HQ.out.drew.call hB))
    | (go_at_call_of 51 p2;refine(HG2.out _ (by first | exact hQ.bel | exact HQ.out.drew.bel)).mono ?_;rintro e wa ⟨rfl,hB⟩;(first | have hQ2:=hQ.call hB | have hQ:=HQ.out.drew.call hB)))
  go_wp2_with fail
  go_meet
  exact⟨by rw[Hg.out],hid hQ2⟩
 clear HG1 HG2 HV;obtain⟨rfl,hq⟩:=hcut;have HQ:=hid hq.out;clear hq
 rcases HH.out with ⟨hz,hx⟩ | ⟨hz,⟨hi,hx⟩ | ⟨⟨hi,hj⟩,r,hx,hm⟩⟩
 ·have HX:=hid hx;clear hx HH;go_wp2_with fail;refine(whole_zero _).mono ?_;rintro e w2 ⟨i3,s3,p3,k3,c3,q3,l3,d3,rfl,hF,hB2⟩;have HF:=hid (And.intro hF.out hB2);have HQ2:=hid (HQ.out.call hB2);clear hF hB2;obtain⟨z0,z1,z2,z3,t0,t1,t2,t3⟩:=HQ2.out.b3.cells4;go_wp2_with fail;rw[HX.out];exact etimes_ret rfl (HQ2.out.b3.stores [.int .i64 i3,.bool s3,.slice p3 k3 c3,.slice q3 l3 d3] rfl nd4) ⟨i3,s3,p3,k3,c3,q3,l3,d3,rfl,hid (ERep.stores (k:=0) (l:=[.int .i64 i3,.bool s3,.slice p3 k3 c3,.slice q3 l3 d3]) HF.out.1 HQ2.out.b3 nd4),Below.stores (k:=0) (l:=[.int .i64 i3,.bool s3,.slice p3 k3 c3,.slice q3 l3 d3]) HQ2.out.bel (by omega)⟩
 ·have HX:=hid hx;clear hx HH;obtain⟨u0,u1,u2,u3,_⟩:=HQ.out.b1.cells4;go_wp2_with fail;refine(infinite_any i1 s1 p1 k1 c1 q1 l1 d1 _).mono ?_;rintro e w2 ⟨rfl,hB2⟩;have HQ2:=hid (HQ.out.call hB2);clear hB2 u0 u1 u2 u3
  rcases hi with h1 | ⟨h1,h2⟩
  ·rw[h1];obtain⟨z0,z1,z2,z3,t0,t1,t2,t3⟩:=HQ2.out.b3.cells4;go_wp2_with fail;rw[HX.out];exact etimes_ret rfl (HQ2.out.b3.stores [.int .i64 g,.bool false,.slice none 0 0,.slice none 0 0] rfl nd4) ⟨g,false,none,0,0,none,0,0,rfl,hid (ERep.stores (k:=0) (l:=[.int .i64 g,.bool false,.slice none 0 0,.slice none 0 0]) ⟨_,_,rfl,Rep.nil,Rep.nil⟩ HQ2.out.b3 nd4),Below.stores (k:=0) (l:=[.int .i64 g,.bool false,.slice none 0 0,.slice none 0 0]) HQ2.out.bel (by omega)⟩
  ·rw[h1];obtain⟨u0,u1,u2,u3,_⟩:=HQ2.out.b2.cells4;go_wp2_with fail;refine(infinite_any i2 s2 p2 k2 c2 q2 l2 d2 _).mono ?_;rintro e w3 ⟨rfl,hB3⟩;have HQ3:=hid (HQ2.out.call hB3);clear hB3 u0 u1 u2 u3;rw[h2];obtain⟨z0,z1,z2,z3,t0,t1,t2,t3⟩:=HQ3.out.b3.cells4;go_wp2_with fail;rw[HX.out];exact etimes_ret rfl (HQ3.out.b3.stores [.int .i64 g,.bool false,.slice none 0 0,.slice none 0 0] rfl nd4) ⟨g,false,none,0,0,none,0,0,rfl,hid (ERep.stores (k:=0) (l:=[.int .i64 g,.bool false,.slice none 0 0,.slice none 0 0]) ⟨_,_,rfl,Rep.nil,Rep.nil⟩ HQ3.out.b3 nd4),Below.stores (k:=0) (l:=[.int .i64 g,.bool false,.slice none 0 0,.slice none 0 0]) HQ3.out.bel (by omega)⟩
 ·have HX:=hid (And.intro hx (And.intro hi hj));have HM:=hid hm.out;clear hx HH hm;obtain⟨u0,u1,u2,u3,_⟩:=HQ.out.b1.cells4;go_wp2_with fail;refine(infinite_any i1 s1 p1 k1 c1 q1 l1 d1 _).mono ?_;rintro e w2 ⟨rfl,hB2⟩;have HQ2:=hid (HQ.out.call hB2);clear hB2 u0 u1 u2 u3;rw[hi];obtain⟨u0,u1,u2,u3,_⟩:=HQ2.out.b2.cells4;go_wp2_with fail;refine(infinite_any i2 s2 p2 k2 c2 q2 l2 d2 _).mono ?_;rintro e w3 ⟨rfl,hB3⟩;have HQ3:=hid (HQ2.out.call hB3);clear hB3 u0 u1 u2 u3;rw[hj];obtain⟨u0,u1,u2,u3,_⟩:=HQ3.out.b1.cells4;obtain⟨v0,v1,v2,v3,_⟩:=HQ3.out.b2.cells4;go_wp2_with fail;refine(HM.out _ HQ3.out.bel).mono ?_;rintro e w4 ⟨s3,p3,k3,c3,q3,l3,d3,rfl,hF,hB4⟩;have HQ4:=hid (HQ3.out.call hB4);clear hB4 u0 u1 u2 u3 v0 v1 v2 v3;go_wp2_with fail;refine(finite_any s3 p3 k3 c3 q3 l3 d3 _).mono ?_;rintro e w5 ⟨rfl,hB5⟩;have HQ5:=hid (And.intro (HQ4.out.call hB5) (hF.out.below hB5));clear hB5 hF;obtain⟨z0,z1,z2,z3,t0,t1,t2,t3⟩:=HQ5.out.1.b3.cells4;go_wp2_with fail;rw[HX.out.1];exact etimes_ret rfl (HQ5.out.1.b3.stores [.int .i64 0,.bool s3,.slice p3 k3 c3,.slice q3 l3 d3] rfl nd4) ⟨0,s3,p3,k3,c3,q3,l3,d3,rfl,hid (ERep.mk rfl (FNorm.stores (k:=0) (l:=[.int .i64 0,.bool s3,.slice p3 k3 c3,.slice q3 l3 d3]) HQ5.out.2 HQ5.out.1.b3 nd4)),Below.stores (k:=0) (l:=[.int .i64 0,.bool s3,.slice p3 k3 c3,.slice q3 l3 d3]) HQ5.out.1.bel (by omega)⟩
def etm (x y:Int×Tq):Int×Tq:=if esgn x*esgn y=0 then (0,false,0,1) else if x.1≠0∨y.1≠0 then (esgn x*esgn y,false,0,0) else (0,fmul x.2 y.2)
theorem esgn_cases{k:Nat}{x:Int×Tq}(h:EOk k x):esgn x=-1∨esgn x=0∨esgn x=1:=by
 unfold esgn sgn
 by_cases h0:x.1=0
 ·rw[if_pos h0]
  split
  ·exact .inl rfl
  ·split
   ·exact .inr (.inl rfl)
   ·exact .inr (.inr rfl)
 ·rw[if_neg h0]
  rcases(h.inf h0).1 with h1 | h1
  ·exact .inr (.inr h1)
  ·exact .inl h1
theorem esgn_wrap{k m:Nat}{x y:Int×Tq}(hx:EOk k x)(hy:EOk m y):IntKind.i64.wrap (esgn x*esgn y)=esgn x*esgn y:=by
 rcases esgn_cases hx with h | h | h<;>rcases esgn_cases hy with h' | h' | h'<;>rw[h,h']<;>rfl
theorem etimes_any(i1 s1 p1 k1 c1 q1 l1 d1 i2 s2 p2 k2 c2 q2 l2 d2)(x y:Int×Tq)(w:World)(h:ERep w (.agg #[.int .i64 i1,.bool s1,.slice p1 k1 c1,.slice q1 l1 d1]) x)(h':ERep w (.agg #[.int .i64 i2,.bool s2,.slice p2 k2 c2,.slice q2 l2 d2]) y)(hx:EOk 1000 x)(hy:EOk 1000 y)(ht:TabOk w):
  Calls Tryz.prog 53 #[.agg #[.int .i64 i1,.bool s1,.slice p1 k1 c1,.slice q1 l1 d1],.agg #[.int .i64 i2,.bool s2,.slice p2 k2 c2,.slice q2 l2 d2]] w (EP w (etm x y)):=by
 refine etimes_gen i1 s1 p1 k1 c1 q1 l1 d1 i2 s2 p2 k2 c2 q2 l2 d2 (esgn x) (esgn y) (esgn x*esgn y) (etm x y) w (hid fun W hW=>esign_any i1 s1 p1 k1 c1 q1 l1 d1 x W (h.below hW)) (hid fun W hW=>esign_any i2 s2 p2 k2 c2 q2 l2 d2 y W (h'.below hW)) (esgn_wrap hx hy) ?_;unfold etm
 by_cases hz:esgn x*esgn y=0
 ·rw[if_pos hz];exact .inl ⟨by rw[hz];rfl,rfl⟩
 rw[if_neg hz];refine .inr ⟨by simpa using hz,?_⟩;obtain⟨hi,hF⟩:=h.frac;obtain⟨hj,hG⟩:=h'.frac
 by_cases hx0:x.1=0
 ·by_cases hy0:y.1=0
  ·rw[if_neg (by simp [hx0,hy0])];have hfx:=hx.fin hx0;have hfy:=hy.fin hy0;exact .inr ⟨⟨by rw[hi,hx0];rfl,by rw[hj,hy0];rfl⟩,_,rfl,hid fun W hW=>fopen (t:=fmul x.2 y.2) (FracMul_any (.agg #[.bool s1,.slice p1 k1 c1,.slice q1 l1 d1]) (.agg #[.bool s2,.slice p2 k2 c2,.slice q2 l2 d2]) x.2.1 x.2.2.1 x.2.2.2 y.2.1 y.2.2.1 y.2.2.2 W (hF.below hW) (hG.below hW) (lt_1m4 hx.bn) (lt_1m4 hx.bd) (lt_1m4 hy.bn) (lt_1m4 hy.bd) hfx.pos hfy.pos (ht.below hW))⟩
  ·rw[if_pos (.inr hy0)];exact .inl ⟨.inr ⟨by rw[hi,hx0];rfl,by rw[hj];simpa using hy0⟩,rfl⟩
 ·rw[if_pos (.inl hx0)];exact .inl ⟨.inl (by rw[hi];simpa using hx0),rfl⟩
set_option maxHeartbeats 2000000
set_option maxRecDepth 100000
theorem rtimes_ret{W:World}{B:Nat}{a0 a1 a2 a3:Value}{tm:Array Value}{R:Ending→World→Prop}(h2:tm[4]?.getD undef=.pointer (some ⟨B,0,none⟩))(hV:Box W B #[a0,a1,a2,a3])(hR:R (.returned (.agg #[a0,a1,a2,a3])) W):
  bodyPost Tryz.prog Tryz.f62 R .ret {tmps:=tm,defers:=[]} W:=by
 obtain⟨g0,g1,g2,g3,_⟩:=hV.cells4;exact bodyPost_ret (v:=.agg #[a0,a1,a2,a3]) (by simp [results,Tryz.results62,go_sem,h2,g0,g1,g2,g3]) rfl hR
theorem rsign_fin(s1 p1 k1 c1 q1 l1 d1 g)(w:World)(HO:Hid (∀W,Bw w W→Calls Tryz.prog 66 #[.agg #[.bool s1,.slice p1 k1 c1,.slice q1 l1 d1]] W fun e w'=>e=.returned (.int .i64 g)∧Bw W w')):
  Calls Tryz.prog 98 #[.agg #[.int .i64 0,.bool s1,.slice p1 k1 c1,.slice q1 l1 d1]] w fun e w'=>e=.returned (.int .i64 g)∧Bw w w':=by
 go_enter Tryz.func98,Tryz.ntmps98;go_upto_region 1 with fail;generalize hA:World.alloc _ _=W0;have HV:=hid (pre1_o hA nd4);clear hA;obtain⟨u0,u1,u2,u3,_⟩:=HV.out.1.cells4;go_wp2_with fail;refine(HO.out _ HV.out.2).mono ?_;rintro e w2 ⟨rfl,hB2⟩;go_wp2_with fail
 go_ret
 exact⟨rfl,HV.out.2.trans (hB2.mono HV.out.2.size)⟩
theorem rsign_inf(i1 s1 p1 k1 c1 q1 l1 d1)(w:World)(h:(i1 != 0)=true):
  Calls Tryz.prog 98 #[.agg #[.int .i64 i1,.bool s1,.slice p1 k1 c1,.slice q1 l1 d1]] w fun e w'=>e=.returned (.int .i64 i1)∧Bw w w':=by
 go_enter Tryz.func98,Tryz.ntmps98;go_upto_region 1 with fail;generalize hA:World.alloc _ _=W0;have HV:=hid (pre1_o hA nd4);clear hA;obtain⟨u0,u1,u2,u3,_⟩:=HV.out.1.cells4;go_wp2_with fail
 go_ret
 exact⟨rfl,HV.out.2⟩
theorem rtimes_gen(i1 s1 p1 k1 c1 q1 l1 d1 i2 s2 p2 k2 c2 q2 l2 d2)(g1 g2 g:Int)(x:Int×Tq)(w:World)(HG1:Hid (∀W,Bw w W→Calls Tryz.prog 98 #[.agg #[.int .i64 i1,.bool s1,.slice p1 k1 c1,.slice q1 l1 d1]] W fun e w'=>e=.returned (.int .i64 g1)∧Bw W w'))(HG2:Hid (∀W,Bw w W→Calls Tryz.prog 98 #[.agg #[.int .i64 i2,.bool s2,.slice p2 k2 c2,.slice q2 l2 d2]] W fun e w'=>e=.returned (.int .i64 g2)∧Bw W w'))(hg:IntKind.i64.wrap (g1*g2)=g)
  (H:(g == 0)=true∧x=(0,false,0,0)∨(g == 0)=false∧(((i1 != 0)=true∨(i1 != 0)=false∧(i2 != 0)=true)∧x=(g,false,0,0)∨((i1 != 0)=false∧(i2 != 0)=false)∧∃r,x=(0,r)∧Hid (∀W,Bw w W→Calls Tryz.prog 99 #[.agg #[.bool s1,.slice p1 k1 c1,.slice q1 l1 d1],.agg #[.bool s2,.slice p2 k2 c2,.slice q2 l2 d2]] W fun e w'=>∃s3 p3 k3 c3 q3 l3 d3,e=.returned (.agg #[.bool s3,.slice p3 k3 c3,.slice q3 l3 d3])∧Hid (QNorm w' (.agg #[.bool s3,.slice p3 k3 c3,.slice q3 l3 d3]) r)∧Bw W w'))):
  Calls Tryz.prog 62 #[.agg #[.int .i64 i1,.bool s1,.slice p1 k1 c1,.slice q1 l1 d1],.agg #[.int .i64 i2,.bool s2,.slice p2 k2 c2,.slice q2 l2 d2]] w fun e w'=>∃i3 s3 p3 k3 c3 q3 l3 d3,e=.returned (.agg #[.int .i64 i3,.bool s3,.slice p3 k3 c3,.slice q3 l3 d3])∧Hid (i3=x.1∧QNorm w' (.agg #[.bool s3,.slice p3 k3 c3,.slice q3 l3 d3]) x.2)∧Bw w w':=by
 have HH:=hid H;have Hg:=hid hg;clear H hg;go_enter Tryz.func62,Tryz.ntmps62;go_upto_region 1 with fail;generalize hA:World.alloc _ _=W0;have HV:=hid (pre3_o hA nd4 nd4 nd4);clear hA
 go_cut [5] from 6 (fun v5 wx=>CutET w [(w.heap.size,[.int .i64 i1,.bool s1,.slice p1 k1 c1,.slice q1 l1 d1]),(w.heap.size+1,[.int .i64 i2,.bool s2,.slice p2 k2 c2,.slice q2 l2 d2]),(w.heap.size+1+1,[.int .i64 0,.bool false,.slice none 0 0,.slice none 0 0])] g v5 wx)
 case first=>
  have HQ:=hid (QQ.i3 (cs:=[.int .i64 i1,.bool s1,.slice p1 k1 c1,.slice q1 l1 d1]) (cs':=[.int .i64 i2,.bool s2,.slice p2 k2 c2,.slice q2 l2 d2]) (c2:=[.int .i64 0,.bool false,.slice none 0 0,.slice none 0 0]) HV.out.1 HV.out.2.1 HV.out.2.2.1 HV.out.2.2.2)
  have HS:Hid (∀w',QQ w [(w.heap.size,[.int .i64 i1,.bool s1,.slice p1 k1 c1,.slice q1 l1 d1]),(w.heap.size+1,[.int .i64 i2,.bool s2,.slice p2 k2 c2,.slice q2 l2 d2]),(w.heap.size+1+1,[.int .i64 0,.bool false,.slice none 0 0,.slice none 0 0])] w'→(w'.cell? ⟨w.heap.size,0,none⟩=some (.int .i64 i1)∧w'.cell? ⟨w.heap.size,1,none⟩=some (.bool s1)∧w'.cell? ⟨w.heap.size,2,none⟩=some (.slice p1 k1 c1)∧w'.cell? ⟨w.heap.size,3,none⟩=some (.slice q1 l1 d1)∧w'.cell? ⟨w.heap.size+1,0,none⟩=some (.int .i64 i2)∧w'.cell? ⟨w.heap.size+1,1,none⟩=some (.bool s2)∧w'.cell? ⟨w.heap.size+1,2,none⟩=some (.slice p2 k2 c2)∧w'.cell? ⟨w.heap.size+1,3,none⟩=some (.slice q2 l2 d2)∧Hid (QQ w [(w.heap.size,[.int .i64 i1,.bool s1,.slice p1 k1 c1,.slice q1 l1 d1]),(w.heap.size+1,[.int .i64 i2,.bool s2,.slice p2 k2 c2,.slice q2 l2 d2]),(w.heap.size+1+1,[.int .i64 0,.bool false,.slice none 0 0,.slice none 0 0])] w'))):=
   hid fun w' hb=>⟨(hb.b1.cells4).1,(hb.b1.cells4).2.1,(hb.b1.cells4).2.2.1,(hb.b1.cells4).2.2.2.1,(hb.b2.cells4).1,(hb.b2.cells4).2.1,(hb.b2.cells4).2.2.1,(hb.b2.cells4).2.2.2.1,hid hb⟩
  go_region_held3 (fun w'=>w'.cell? ⟨w.heap.size,0,none⟩=some (.int .i64 i1)∧w'.cell? ⟨w.heap.size,1,none⟩=some (.bool s1)∧w'.cell? ⟨w.heap.size,2,none⟩=some (.slice p1 k1 c1)∧w'.cell? ⟨w.heap.size,3,none⟩=some (.slice q1 l1 d1)∧w'.cell? ⟨w.heap.size+1,0,none⟩=some (.int .i64 i2)∧w'.cell? ⟨w.heap.size+1,1,none⟩=some (.bool s2)∧w'.cell? ⟨w.heap.size+1,2,none⟩=some (.slice p2 k2 c2)∧w'.cell? ⟨w.heap.size+1,3,none⟩=some (.slice q2 l2 d2)∧Hid (QQ w [(w.heap.size,[.int .i64 i1,.bool s1,.slice p1 k1 c1,.slice q1 l1 d1]),(w.heap.size+1,[.int .i64 i2,.bool s2,.slice p2 k2 c2,.slice q2 l2 d2]),(w.heap.size+1+1,[.int .i64 0,.bool false,.slice none 0 0,.slice none 0 0])] w'))
   (first | (refine HS.out _ ?_;first | (with_reducible exact HQ.out.drew) | (with_reducible assumption)))
   (first
    | (go_at_call_of 98 p1;refine(HG1.out _ (by first | exact hQ.bel | exact HQ.out.drew.bel)).mono ?_;rintro e wa ⟨rfl,hB⟩;(first | have hQ2:=hQ.call hB | have hQ:=HQ.out.drew.call hB))
    | (go_at_call_of 98 p2;refine(HG2.out _ (by first | exact hQ.bel | exact HQ.out.drew.bel)).mono ?_;rintro e wa ⟨rfl,hB⟩;(first | have hQ2:=hQ.call hB | have hQ:=HQ.out.drew.call hB)))
  go_wp2_with fail
  go_meet
  exact⟨by rw[Hg.out],hid hQ2⟩
 clear HG1 HG2 HV;obtain⟨rfl,hq⟩:=hcut;have HQ:=hid hq.out;clear hq;obtain⟨u0,u1,u2,u3,_⟩:=HQ.out.b1.cells4;obtain⟨v0,v1,v2,v3,_⟩:=HQ.out.b2.cells4;obtain⟨z0,z1,z2,z3,t0,t1,t2,t3⟩:=HQ.out.b3.cells4
 rcases HH.out with ⟨hz,hx⟩ | ⟨hz,⟨hi,hx⟩ | ⟨⟨hi,hj⟩,r,hx,hm⟩⟩
 ·have HX:=hid hx;clear hx HH;go_wp2_with fail;rw[HX.out];exact rtimes_ret rfl (HQ.out.b3.stores [.int .i64 0,.bool false,.slice none 0 0,.slice none 0 0] rfl nd4) ⟨0,false,none,0,0,none,0,0,rfl,hid ⟨rfl,QNorm.zero _⟩,Below.stores (k:=0) (l:=[.int .i64 0,.bool false,.slice none 0 0,.slice none 0 0]) HQ.out.bel (by omega)⟩
 ·have HX:=hid hx;clear hx HH
  rcases hi with h1 | ⟨h1,h2⟩
  ·go_wp2_with fail;rw[HX.out];exact rtimes_ret rfl (HQ.out.b3.stores [.int .i64 g,.bool false,.slice none 0 0,.slice none 0 0] rfl nd4) ⟨g,false,none,0,0,none,0,0,rfl,hid ⟨rfl,QNorm.zero _⟩,Below.stores (k:=0) (l:=[.int .i64 g,.bool false,.slice none 0 0,.slice none 0 0]) HQ.out.bel (by omega)⟩
  ·go_wp2_with fail;rw[HX.out];exact rtimes_ret rfl (HQ.out.b3.stores [.int .i64 g,.bool false,.slice none 0 0,.slice none 0 0] rfl nd4) ⟨g,false,none,0,0,none,0,0,rfl,hid ⟨rfl,QNorm.zero _⟩,Below.stores (k:=0) (l:=[.int .i64 g,.bool false,.slice none 0 0,.slice none 0 0]) HQ.out.bel (by omega)⟩
 ·have HX:=hid hx;have HM:=hid hm.out;clear hx HH hm;go_wp2_with fail;refine(HM.out _ HQ.out.bel).mono ?_;rintro e w4 ⟨s3,p3,k3,c3,q3,l3,d3,rfl,hF,hB4⟩;have HQ4:=hid (And.intro (HQ.out.call hB4) hF.out);clear hB4 hF u0 u1 u2 u3 v0 v1 v2 v3 z0 z1 z2 z3 t0 t1 t2 t3;obtain⟨z0,z1,z2,z3,t0,t1,t2,t3⟩:=HQ4.out.1.b3.cells4;go_wp2_with fail;rw[HX.out];exact rtimes_ret rfl (HQ4.out.1.b3.stores [.int .i64 0,.bool s3,.slice p3 k3 c3,.slice q3 l3 d3] rfl nd4) ⟨0,s3,p3,k3,c3,q3,l3,d3,rfl,hid ⟨rfl,QNorm.stores (k:=0) (l:=[.int .i64 0,.bool s3,.slice p3 k3 c3,.slice q3 l3 d3]) HQ4.out.2 HQ4.out.1.b3 nd4⟩,Below.stores (k:=0) (l:=[.int .i64 0,.bool s3,.slice p3 k3 c3,.slice q3 l3 d3]) HQ4.out.1.bel (by omega)⟩
theorem rbefore_ne(i1 s1 p1 k1 c1 q1 l1 d1 i2 s2 p2 k2 c2 q2 l2 d2)(w:World)(h:(i1 != i2)=true):
  Calls Tryz.prog 63 #[.agg #[.int .i64 i1,.bool s1,.slice p1 k1 c1,.slice q1 l1 d1],.agg #[.int .i64 i2,.bool s2,.slice p2 k2 c2,.slice q2 l2 d2]] w fun e w'=>e=.returned (.bool (decide (i1 < i2)))∧Bw w w':=by
 obtain⟨r,hr⟩:∃r,r=decide (i1 < i2):=⟨_,rfl⟩;rw[←hr];have hr2:=hr.symm;clear hr;go_enter Tryz.func63,Tryz.ntmps63;go_upto_region 1 with fail;generalize hA:World.alloc _ _=W0;have HV:=hid (pre2_o hA nd4 nd4);clear hA;obtain⟨u0,u1,u2,u3,_⟩:=HV.out.1.cells4;obtain⟨v0,v1,v2,v3,_⟩:=HV.out.2.1.cells4;go_wp2_with fail
 go_ret
 exact⟨rfl,HV.out.2.2⟩
theorem rbefore_inf(i1 s1 p1 k1 c1 q1 l1 d1 i2 s2 p2 k2 c2 q2 l2 d2)(w:World)(h:(i1 != i2)=false)(h0:(i1 == 0)=false):
  Calls Tryz.prog 63 #[.agg #[.int .i64 i1,.bool s1,.slice p1 k1 c1,.slice q1 l1 d1],.agg #[.int .i64 i2,.bool s2,.slice p2 k2 c2,.slice q2 l2 d2]] w fun e w'=>e=.returned (.bool false)∧Bw w w':=by
 go_enter Tryz.func63,Tryz.ntmps63;go_upto_region 1 with fail;generalize hA:World.alloc _ _=W0;have HV:=hid (pre2_o hA nd4 nd4);clear hA;obtain⟨u0,u1,u2,u3,_⟩:=HV.out.1.cells4;obtain⟨v0,v1,v2,v3,_⟩:=HV.out.2.1.cells4;go_wp2_with fail
 go_ret
 exact⟨rfl,HV.out.2.2⟩
theorem rbefore_fin(s1 p1 k1 c1 q1 l1 d1 s2 p2 k2 c2 q2 l2 d2 c)(w:World)(HC:Hid (∀W,Bw w W→Calls Tryz.prog 65 #[.agg #[.bool s1,.slice p1 k1 c1,.slice q1 l1 d1],.agg #[.bool s2,.slice p2 k2 c2,.slice q2 l2 d2]] W fun e w'=>e=.returned (.int .i64 c)∧Bw W w')):
  Calls Tryz.prog 63 #[.agg #[.int .i64 0,.bool s1,.slice p1 k1 c1,.slice q1 l1 d1],.agg #[.int .i64 0,.bool s2,.slice p2 k2 c2,.slice q2 l2 d2]] w fun e w'=>e=.returned (.bool (decide (c < 0)))∧Bw w w':=by
 obtain⟨r,hr⟩:∃r,r=decide (c < 0):=⟨_,rfl⟩;rw[←hr];have hr2:=hr.symm;clear hr;go_enter Tryz.func63,Tryz.ntmps63;go_upto_region 1 with fail;generalize hA:World.alloc _ _=W0;have HV:=hid (pre2_o hA nd4 nd4);clear hA;obtain⟨u0,u1,u2,u3,_⟩:=HV.out.1.cells4;obtain⟨v0,v1,v2,v3,_⟩:=HV.out.2.1.cells4;go_wp2_with fail;refine(HC.out _ HV.out.2.2).mono ?_;rintro e w2 ⟨rfl,hB2⟩;go_wp2_with fail
 go_ret
 exact⟨rfl,HV.out.2.2.trans (hB2.mono HV.out.2.2.size)⟩
structure ROk (A:Nat) (x:Int×Tq):Prop where
 inf:x.1≠0→x.1=1∨x.1=-1
 zs:x.2.2.1=0→x.2.1=false
 bn:x.2.2.1 < B16 ^ A
 bd:x.2.2.2 < B16 ^ A
theorem rsgn_cases{A:Nat}{x:Int×Tq}(h:ROk A x):esgn x=-1∨esgn x=0∨esgn x=1:=by
 unfold esgn sgn
 by_cases h0:x.1=0
 ·rw[if_pos h0]
  split
  ·exact .inl rfl
  ·split
   ·exact .inr (.inl rfl)
   ·exact .inr (.inr rfl)
 ·rw[if_neg h0]
  rcases h.inf h0 with h1 | h1
  ·exact .inr (.inr h1)
  ·exact .inl h1
theorem rsgn_wrap{A B:Nat}{x y:Int×Tq}(hx:ROk A x)(hy:ROk B y):IntKind.i64.wrap (esgn x*esgn y)=esgn x*esgn y:=by
 rcases rsgn_cases hx with h | h | h<;>rcases rsgn_cases hy with h' | h' | h'<;>rw[h,h']<;>rfl
theorem rsign_any(i1 s1 p1 k1 c1 q1 l1 d1)(x:Int×Tq)(A:Nat)(w:World)(hi:i1=x.1)(hF:QNorm w (.agg #[.bool s1,.slice p1 k1 c1,.slice q1 l1 d1]) x.2)(hx:ROk A x):
  Calls Tryz.prog 98 #[.agg #[.int .i64 i1,.bool s1,.slice p1 k1 c1,.slice q1 l1 d1]] w fun e w'=>e=.returned (.int .i64 (esgn x))∧Bw w w':=by
 unfold esgn
 by_cases h0:x.1=0
 ·rw[if_pos h0];rw[h0] at hi;subst hi;exact rsign_fin s1 p1 k1 c1 q1 l1 d1 _ w (hid fun W hW=>Sgn_any (.agg #[.bool s1,.slice p1 k1 c1,.slice q1 l1 d1]) x.2 W (hF.below hW) hx.zs)
 ·rw[if_neg h0,←hi];exact rsign_inf i1 s1 p1 k1 c1 q1 l1 d1 w (by rw[hi];simpa using h0)
def rtm (x y:Int×Tq):Int×Tq:=if esgn x*esgn y=0 then (0,false,0,0) else if x.1≠0∨y.1≠0 then (esgn x*esgn y,false,0,0) else (0,frac (x.2.1 != y.2.1) (x.2.2.1*y.2.2.1) (x.2.2.2*y.2.2.2))
theorem rtimes_any(i1 s1 p1 k1 c1 q1 l1 d1 i2 s2 p2 k2 c2 q2 l2 d2)(x y:Int×Tq)(A:Nat)(w:World)(hi:i1=x.1)(hF:QNorm w (.agg #[.bool s1,.slice p1 k1 c1,.slice q1 l1 d1]) x.2)(hj:i2=y.1)(hG:QNorm w (.agg #[.bool s2,.slice p2 k2 c2,.slice q2 l2 d2]) y.2)(hx:ROk A x)(hy:ROk A y)(hA:A≤1000000)(px:x.1=0→esgn x≠0→0 < x.2.2.2)(py:y.1=0→esgn y≠0→0 < y.2.2.2):
  Calls Tryz.prog 62 #[.agg #[.int .i64 i1,.bool s1,.slice p1 k1 c1,.slice q1 l1 d1],.agg #[.int .i64 i2,.bool s2,.slice p2 k2 c2,.slice q2 l2 d2]] w fun e w'=>∃i3 s3 p3 k3 c3 q3 l3 d3,e=.returned (.agg #[.int .i64 i3,.bool s3,.slice p3 k3 c3,.slice q3 l3 d3])∧Hid (i3=(rtm x y).1∧QNorm w' (.agg #[.bool s3,.slice p3 k3 c3,.slice q3 l3 d3]) (rtm x y).2)∧Bw w w':=by
 refine rtimes_gen i1 s1 p1 k1 c1 q1 l1 d1 i2 s2 p2 k2 c2 q2 l2 d2 (esgn x) (esgn y) (esgn x*esgn y) (rtm x y) w (hid fun W hW=>rsign_any i1 s1 p1 k1 c1 q1 l1 d1 x A W hi (hF.below hW) hx) (hid fun W hW=>rsign_any i2 s2 p2 k2 c2 q2 l2 d2 y A W hj (hG.below hW) hy) (rsgn_wrap hx hy) ?_;unfold rtm
 by_cases hz:esgn x*esgn y=0
 ·rw[if_pos hz];exact .inl ⟨by rw[hz];rfl,rfl⟩
 rw[if_neg hz];refine .inr ⟨by simpa using hz,?_⟩
 by_cases hx0:x.1=0
 ·by_cases hy0:y.1=0
  ·rw[if_neg (by simp [hx0,hy0])];exact .inr ⟨⟨by rw[hi,hx0];rfl,by rw[hj,hy0];rfl⟩,_,rfl,hid fun W hW=>qopen (rProd_any (.agg #[.bool s1,.slice p1 k1 c1,.slice q1 l1 d1]) (.agg #[.bool s2,.slice p2 k2 c2,.slice q2 l2 d2]) x.2 y.2 A W (hF.below hW) (hG.below hW) hx.bn hx.bd hy.bn hy.bd hA (px hx0 (fun h=>hz (by rw[h,Int.zero_mul]))) (py hy0 (fun h=>hz (by rw[h,Int.mul_zero]))))⟩
  ·rw[if_pos (.inr hy0)];exact .inl ⟨.inr ⟨by rw[hi,hx0];rfl,by rw[hj];simpa using hy0⟩,rfl⟩
 ·rw[if_pos (.inl hx0)];exact .inl ⟨.inl (by rw[hi];simpa using hx0),rfl⟩
def rbf (x y:Int×Tq):Bool:=if x.1≠y.1 then decide (x.1 < y.1) else if x.1=0 then decide (fcmp (x.2.1,x.2.2.1,den1 x.2.2.2) (y.2.1,y.2.2.1,den1 y.2.2.2) < 0) else false
theorem rbefore_any(i1 s1 p1 k1 c1 q1 l1 d1 i2 s2 p2 k2 c2 q2 l2 d2)(x y:Int×Tq)(A:Nat)(w:World)(hi:i1=x.1)(hF:QNorm w (.agg #[.bool s1,.slice p1 k1 c1,.slice q1 l1 d1]) x.2)(hj:i2=y.1)(hG:QNorm w (.agg #[.bool s2,.slice p2 k2 c2,.slice q2 l2 d2]) y.2)(hn1:x.2.2.1 < B16 ^ A)(hd1:den1 x.2.2.2 < B16 ^ A)(hn2:y.2.2.1 < B16 ^ A)(hd2:den1 y.2.2.2 < B16 ^ A)(hA:A≤1000000):
  Calls Tryz.prog 63 #[.agg #[.int .i64 i1,.bool s1,.slice p1 k1 c1,.slice q1 l1 d1],.agg #[.int .i64 i2,.bool s2,.slice p2 k2 c2,.slice q2 l2 d2]] w fun e w'=>e=.returned (.bool (rbf x y))∧Bw w w':=by
 unfold rbf
 by_cases hne:x.1=y.1
 ·rw[if_neg (by simpa using hne)]
  by_cases h0:x.1=0
  ·rw[if_pos h0]
   have hi0:i1=0:=by rw[hi,h0]
   have hj0:i2=0:=by rw[hj,←hne,h0]
   subst hi0 hj0;exact rbefore_fin s1 p1 k1 c1 q1 l1 d1 s2 p2 k2 c2 q2 l2 d2 _ w (hid fun W hW=>rCmpR_any x.2.2.2 y.2.2.2 (.agg #[.bool s1,.slice p1 k1 c1,.slice q1 l1 d1]) (.agg #[.bool s2,.slice p2 k2 c2,.slice q2 l2 d2]) (x.2.1,x.2.2.1,den1 x.2.2.2) (y.2.1,y.2.2.1,den1 y.2.2.2) A W (hF.below hW) (hG.below hW) rfl rfl hn1 hd1 hn2 hd2 hA (den1_pos _) (den1_pos _))
  ·rw[if_neg h0];exact rbefore_inf i1 s1 p1 k1 c1 q1 l1 d1 i2 s2 p2 k2 c2 q2 l2 d2 w (by rw[hi,hj,hne];simp) (by rw[hi];simpa using h0)
 ·rw[if_pos hne,←hi,←hj];exact rbefore_ne i1 s1 p1 k1 c1 q1 l1 d1 i2 s2 p2 k2 c2 q2 l2 d2 w (by rw[hi,hj];simpa using hne)
end Go.Proofs.YteblinkehldghaaGreatDoor
