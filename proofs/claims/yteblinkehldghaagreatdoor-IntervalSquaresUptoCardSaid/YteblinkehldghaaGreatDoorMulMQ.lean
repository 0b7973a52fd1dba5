/- Products of ends and of sets, of the program. -/
import Derived.Test.YteblinkehldghaaGreatDoorLeaMQ
import Derived.Test.YteblinkehldghaaGreatDoorPwiIQ
namespace Go.Proofs.YteblinkehldghaaGreatDoor
open Go.RowKit Dg
theorem etimes_ret{W:World}{B:Nat}{a0 a1 a2 a3:Value}{tm:Array Value}{R:Ending→World→Prop}(h2:tm[4]?.getD undef=.pointer (some ⟨B,0,none⟩))(hV:Box W B #[a0,a1,a2,a3])(hR:R (.returned (.agg #[a0,a1,a2,a3])) W):
  bodyPost Tryz.prog Tryz.f53 R .ret {tmps:=tm,defers:=[]} W:=by
 obtain⟨g0,g1,g2,g3,_⟩:=hV.cells4;exact bodyPost_ret (v:=.agg #[a0,a1,a2,a3]) (by simp [results,Tryz.results53,go_sem,h2,g0,g1,g2,g3]) rfl hR
def CutET (w:World) (t:List (Nat×List Value)) (g:Int) (v5:Value) (wx:World):Prop:=v5=.int .i64 g∧Hid (QQ w t wx)
set_option maxHeartbeats 2000000 in
set_option maxRecDepth 100000 in
theorem etimes_gen(i1 s1 p1 k1 c1 q1 l1 d1 i2 s2 p2 k2 c2 q2 l2 d2)(g1 g2 g:Int)(x:Int×Tq)(w:World)(HG1:Hid (∀W,Bw w W→Calls Tryz.prog 51 #[.agg #[.int .i64 i1,.bool s1,.slice p1 k1 c1,.slice q1 l1 d1]] W fun e w'=>e=.returned (.int .i64 g1)∧Bw W w'))(HG2:Hid (∀W,Bw w W→Calls Tryz.prog 51 #[.agg #[.int .i64 i2,.bool s2,.slice p2 k2 c2,.slice q2 l2 d2]] W fun e w'=>e=.returned (.int .i64 g2)∧Bw W w'))(hg:IntKind.i64.wrap (g1*g2)=g)
  (H:(g == 0)=true∧x=(0,false,0,1)∨(g == 0)=false∧(((i1 != 0)=true∨(i1 != 0)=false∧(i2 != 0)=true)∧x=(g,false,0,0)∨((i1 != 0)=false∧(i2 != 0)=false)∧∃r,x=(0,r)∧Hid (∀W,Bw w W→Calls Tryz.prog 91 #[.agg #[.bool s1,.slice p1 k1 c1,.slice q1 l1 d1],.agg #[.bool s2,.slice p2 k2 c2,.slice q2 l2 d2]] W fun e w'=>∃s3 p3 k3 c3 q3 l3 d3,e=.returned (.agg #[.bool s3,.slice p3 k3 c3,.slice q3 l3 d3])∧Hid (FNorm w' (.agg #[.bool s3,.slice p3 k3 c3,.slice q3 l3 d3]) r)∧Bw W w'))):
  Calls Tryz.prog 53 #[.agg #[.int .i64 i1,.bool s1,.slice p1 k1 c1,.slice q1 l1 d1],.agg #[.int .i64 i2,.bool s2,.slice p2 k2 c2,.slice q2 l2 d2]] w (EP w x):=by
 have HH:=hid H;have Hg:=hid hg;clear H hg;go_enter Tryz.func53,Tryz.ntmps53;go_upto_region 1 with fail;generalize hA:World.alloc _ _=W0;have HV:=hid (pre3_o hA nd4 nd4 nd4);clear hA
 go_cut [5] from 6 (fun v5 wx=>CutET w [(w.heap.size,[.int .i64 i1,.bool s1,.slice p1 k1 c1,.slice q1 l1 d1]),(w.heap.size+1,[.int .i64 i2,.bool s2,.slice p2 k2 c2,.slice q2 l2 d2]),(w.heap.size+1+1,[.int .i64 0,.bool false,.slice none 0 0,.slice none 0 0])] g v5 wx)
 case first=>
  have HQ:=hid (QQ.i3 (cs:=[.int .i64 i1,.bool s1,.slice p1 k1 c1,.slice q1 l1 d1]) (cs':=[.int .i64 i2,.bool s2,.slice p2 k2 c2,.slice q2 l2 d2]) (c2:=[.int .i64 0,.bool false,.slice none 0 0,.slice none 0 0]) HV.out.1 HV.out.2.1 HV.out.2.2.1 HV.out.2.2.2)
  have HS:Hid (∀w',QQ w [(w.heap.size,[.int .i64 i1,.bool s1,.slice p1 k1 c1,.slice q1 l1 d1]),(w.heap.size+1,[.int .i64 i2,.bool s2,.slice p2 k2 c2,.slice q2 l2 d2]),(w.heap.size+1+1,[.int .i64 0,.bool false,.slice none 0 0,.slice none 0 0])] w'→(w'.cell? ⟨w.heap.size,0,none⟩=some (.int .i64 i1)∧w'.cell? ⟨w.heap.size,1,none⟩=some (.bool s1)∧w'.cell? ⟨w.heap.size,2,none⟩=some (.slice p1 k1 c1)∧w'.cell? ⟨w.heap.size,3,none⟩=some (.slice q1 l1 d1)∧w'.cell? ⟨w.heap.size+1,0,none⟩=some (.int .i64 i2)∧w'.cell? ⟨w.heap.size+1,1,none⟩=some (.bool s2)∧w'.cell? ⟨w.heap.size+1,2,none⟩=some (.slice p2 k2 c2)∧w'.cell? ⟨w.heap.size+1,3,none⟩=some (.slice q2 l2 d2)∧Hid (QQ w [(w.heap.size,[.int .i64 i1,.bool s1,.slice p1 k1 c1,.slice q1 l1 d1]),(w.heap.size+1,[.int .i64 i2,.bool s2,.slice p2 k2 c2,.slice q2 l2 d2]),(w.heap.size+1+1,[.int .i64 0,.bool false,.slice none 0 0,.slice none 0 0])] w'))):=
   hid fun w' hb=>⟨(hb.b1.cells4).1,(hb.b1.cells4).2.1,(hb.b1.cells4).2.2.1,(hb.b1.cells4).2.2.2.1,(hb.b2.cells4).1,(hb.b2.cells4).2.1,(hb.b2.cells4).2.2.1,(hb.b2.cells4).2.2.2.1,hid hb⟩
  go_region_held3 (fun w'=>w'.cell? ⟨w.heap.size,0,none⟩=some (.int .i64 i1)∧w'.cell? ⟨w.heap.size,1,none⟩=some (.bool s1)∧w'.cell? ⟨w.heap.size,2,none⟩=some (.slice p1 k1 c1)∧w'.cell? ⟨w.heap.size,3,none⟩=some (.slice q1 l1 d1)∧w'.cell? ⟨w.heap.size+1,0,none⟩=some (.int .i64 i2)∧w'.cell? ⟨w.heap.size+1,1,none⟩=some (.bool s2)∧w'.cell? ⟨w.heap.size+1,2,none⟩=some (.slice p2 k2 c2)∧w'.cell? ⟨w.heap.size+1,3,none⟩=some (.slice q2 l2 d2)∧Hid (QQ w [(w.heap.size,[.int .i64 i1,.bool s1,.slice p1 k1 c1,.slice q1 l1 d1]),(w.heap.size+1,[.int .i64 i2,.bool s2,.slice p2 k2 c2,.slice q2 l2 d2]),(w.heap.size+1+1,[.int .i64 0,.bool false,.slice none 0 0,.slice none 0 0])] w'))
   (first | (refine HS.out _ ?_;first | (with_reducible exact HQ.out.drew) | (with_reducible assumption)))
   (first
    | (go_at_call_of 51 p1;refine(HG1.out _ (by first | exact hQ.bel | exact HQ.out.drew.bel)).mono ?_;rintro e wa ⟨rfl,hB⟩;(first | have hQ2:=hQ.call hB | have hQ:=HQ.out.drew.call hB))
    | (go_at_call_of 51 p2;refine(HG2.out _ (by first | exact hQ.bel | exact HQ.out.drew.bel)).mono ?_;rintro e wa ⟨rfl,hB⟩;(first | have hQ2:=hQ.call hB | have hQ:=HQ.out.drew.call hB)))
  go_wp2_with fail
  go_meet
  exact⟨by rw[Hg.out],hid hQ2⟩
 clear HG1 HG2 HV;obtain⟨rfl,hq⟩:=hcut;have HQ:=hid hq.out;clear hq
 rcases HH.out with ⟨hz,hx⟩ | ⟨hz,⟨hi,hx⟩ | ⟨⟨hi,hj⟩,r,hx,hm⟩⟩
 ·have HX:=hid hx;clear hx HH;go_wp2_with fail;refine(whole_zero _).mono ?_;rintro e w2 ⟨i3,s3,p3,k3,c3,q3,l3,d3,rfl,hF,hB2⟩;have HF:=hid (And.intro hF.out hB2);have HQ2:=hid (HQ.out.call hB2);clear hF hB2;obtain⟨z0,z1,z2,z3,t0,t1,t2,t3⟩:=HQ2.out.b3.cells4;go_wp2_with fail;rw[HX.out];exact etimes_ret rfl (HQ2.out.b3.stores [.int .i64 i3,.bool s3,.slice p3 k3 c3,.slice q3 l3 d3] rfl nd4) ⟨i3,s3,p3,k3,c3,q3,l3,d3,rfl,hid (ERep.stores (k:=0) (l:=[.int .i64 i3,.bool s3,.slice p3 k3 c3,.slice q3 l3 d3]) HF.out.1 HQ2.out.b3 nd4),Below.stores (k:=0) (l:=[.int .i64 i3,.bool s3,.slice p3 k3 c3,.slice q3 l3 d3]) HQ2.out.bel (by omega)⟩
 ·have HX:=hid hx;clear hx HH;obtain⟨u0,u1,u2,u3,_⟩:=HQ.out.b1.cells4;go_wp2_with fail;refine(infinite_any i1 s1 p1 k1 c1 q1 l1 d1 _).mono ?_;rintro e w2 ⟨rfl,hB2⟩;have HQ2:=hid (HQ.out.call hB2);clear hB2 u0 u1 u2 u3
  rcases hi with h1 | ⟨h1,h2⟩
  ·rw[h1];obtain⟨z0,z1,z2,z3,t0,t1,t2,t3⟩:=HQ2.out.b3.cells4;go_wp2_with fail;rw[HX.out];exact etimes_ret rfl (HQ2.out.b3.stores [.int .i64 g,.bool false,.slice none 0 0,.slice none 0 0] rfl nd4) ⟨g,false,none,0,0,none,0,0,rfl,hid (ERep.stores (k:=0) (l:=[.int .i64 g,.bool false,.slice none 0 0,.slice none 0 0]) ⟨_,_,rfl,Rep.nil,Rep.nil⟩ HQ2.out.b3 nd4),Below.stores (k:=0) (l:=[.int .i64 g,.bool false,.slice none 0 0,.slice none 0 0]) HQ2.out.bel (by omega)⟩
  ·rw[h1];obtain⟨u0,u1,u2,u3,_⟩:=HQ2.out.b2.cells4;go_wp2_with fail;refine(infinite_any i2 s2 p2 k2 c2 q2 l2 d2 _).mono ?_;rintro e w3 ⟨rfl,hB3⟩;have HQ3:=hid (HQ2.out.call hB3);clear hB3 u0 u1 u2 u3;rw[h2];obtain⟨z0,z1,z2,z3,t0,t1,t2,t3⟩:=HQ3.out.b3.cells4;go_wp2_with fail;rw[HX.out];exact etimes_ret rfl (HQ3.out.b3.stores [.int .i64 g,.bool false,.slice none 0 0,.slice none 0 0] rfl nd4) ⟨g,false,none,0,0,none,0,0,rfl,hid (ERep.stores (k:=0) (l:=[.int .i64 g,.bool false,.slice none 0 0,.slice none 0 0]) ⟨_,_,rfl,Rep.nil,Rep.nil⟩ HQ3.out.b3 nd4),Below.stores (k:=0) (l:=[.int .i64 g,.bool false,.slice none 0 0,.slice none 0 0]) HQ3.out.bel (by omega)⟩
 ·have HX:=hid (And.intro hx (And.intro hi hj));have HM:=hid hm.out;clear hx HH hm;obtain⟨u0,u1,u2,u3,_⟩:=HQ.out.b1.cells4;go_wp2_with fail;refine(infinite_any i1 s1 p1 k1 c1 q1 l1 d1 _).mono ?_;rintro e w2 ⟨rfl,hB2⟩;have HQ2:=hid (HQ.out.call hB2);clear hB2 u0 u1 u2 u3;rw[hi];obtain⟨u0,u1,u2,u3,_⟩:=HQ2.out.b2.cells4;go_wp2_with fail;refine(infinite_any i2 s2 p2 k2 c2 q2 l2 d2 _).mono ?_;rintro e w3 ⟨rfl,hB3⟩;have HQ3:=hid (HQ2.out.call hB3);clear hB3 u0 u1 u2 u3;rw[hj];obtain⟨u0,u1,u2,u3,_⟩:=HQ3.out.b1.cells4;obtain⟨v0,v1,v2,v3,_⟩:=HQ3.out.b2.cells4;go_wp2_with fail;refine(HM.out _ HQ3.out.bel).mono ?_;rintro e w4 ⟨s3,p3,k3,c3,q3,l3,d3,rfl,hF,hB4⟩;have HQ4:=hid (HQ3.out.call hB4);clear hB4 u0 u1 u2 u3 v0 v1 v2 v3;go_wp2_with fail;refine(finite_any s3 p3 k3 c3 q3 l3 d3 _).mono ?_;rintro e w5 ⟨rfl,hB5⟩;have HQ5:=hid (And.intro (HQ4.out.call hB5) (hF.out.below hB5));clear hB5 hF;obtain⟨z0,z1,z2,z3,t0,t1,t2,t3⟩:=HQ5.out.1.b3.cells4;go_wp2_with fail;rw[HX.out.1];exact etimes_ret rfl (HQ5.out.1.b3.stores [.int .i64 0,.bool s3,.slice p3 k3 c3,.slice q3 l3 d3] rfl nd4) ⟨0,s3,p3,k3,c3,q3,l3,d3,rfl,hid (ERep.mk rfl (FNorm.stores (k:=0) (l:=[.int .i64 0,.bool s3,.slice p3 k3 c3,.slice q3 l3 d3]) HQ5.out.2 HQ5.out.1.b3 nd4)),Below.stores (k:=0) (l:=[.int .i64 0,.bool s3,.slice p3 k3 c3,.slice q3 l3 d3]) HQ5.out.1.bel (by omega)⟩
def etm (x y:Int×Tq):Int×Tq:=if esgn x*esgn y=0 then (0,false,0,1) else if x.1≠0∨y.1≠0 then (esgn x*esgn y,false,0,0) else (0,fmul x.2 y.2)
theorem esgn_cases{k:Nat}{x:Int×Tq}(h:EOk k x):esgn x=-1∨esgn x=0∨esgn x=1:=by
 unfold esgn sgn
 by_cases h0:x.1=0
 ·rw[if_pos h0]
  split
  ·exact .inl rfl
  ·split
   ·exact .inr (.inl rfl)
   ·exact .inr (.inr rfl)
 ·rw[if_neg h0]
  rcases(h.inf h0).1 with h1 | h1
  ·exact .inr (.inr h1)
  ·exact .inl h1
theorem esgn_wrap{k m:Nat}{x y:Int×Tq}(hx:EOk k x)(hy:EOk m y):IntKind.i64.wrap (esgn x*esgn y)=esgn x*esgn y:=by
 rcases esgn_cases hx with h | h | h<;>rcases esgn_cases hy with h' | h' | h'<;>rw[h,h']<;>rfl
theorem etimes_any(i1 s1 p1 k1 c1 q1 l1 d1 i2 s2 p2 k2 c2 q2 l2 d2)(x y:Int×Tq)(w:World)(h:ERep w (.agg #[.int .i64 i1,.bool s1,.slice p1 k1 c1,.slice q1 l1 d1]) x)(h':ERep w (.agg #[.int .i64 i2,.bool s2,.slice p2 k2 c2,.slice q2 l2 d2]) y)(hx:EOk 1000 x)(hy:EOk 1000 y)(ht:TabOk w):
  Calls Tryz.prog 53 #[.agg #[.int .i64 i1,.bool s1,.slice p1 k1 c1,.slice q1 l1 d1],.agg #[.int .i64 i2,.bool s2,.slice p2 k2 c2,.slice q2 l2 d2]] w (EP w (etm x y)):=by
 refine etimes_gen i1 s1 p1 k1 c1 q1 l1 d1 i2 s2 p2 k2 c2 q2 l2 d2 (esgn x) (esgn y) (esgn x*esgn y) (etm x y) w (hid fun W hW=>esign_any i1 s1 p1 k1 c1 q1 l1 d1 x W (h.below hW)) (hid fun W hW=>esign_any i2 s2 p2 k2 c2 q2 l2 d2 y W (h'.below hW)) (esgn_wrap hx hy) ?_;unfold etm
 by_cases hz:esgn x*esgn y=0
 ·rw[if_pos hz];exact .inl ⟨by rw[hz];rfl,rfl⟩
 rw[if_neg hz];refine .inr ⟨by simpa using hz,?_⟩;obtain⟨hi,hF⟩:=h.frac;obtain⟨hj,hG⟩:=h'.frac
 by_cases hx0:x.1=0
 ·by_cases hy0:y.1=0
  ·rw[if_neg (by simp [hx0,hy0])];have hfx:=hx.fin hx0;have hfy:=hy.fin hy0;exact .inr ⟨⟨by rw[hi,hx0];rfl,by rw[hj,hy0];rfl⟩,_,rfl,hid fun W hW=>fopen (t:=fmul x.2 y.2) (FracMul_any (.agg #[.bool s1,.slice p1 k1 c1,.slice q1 l1 d1]) (.agg #[.bool s2,.slice p2 k2 c2,.slice q2 l2 d2]) x.2.1 x.2.2.1 x.2.2.2 y.2.1 y.2.2.1 y.2.2.2 W (hF.below hW) (hG.below hW) (lt_1m4 hx.bn) (lt_1m4 hx.bd) (lt_1m4 hy.bn) (lt_1m4 hy.bd) hfx.pos hfy.pos (ht.below hW))⟩
  ·rw[if_pos (.inr hy0)];exact .inl ⟨.inr ⟨by rw[hi,hx0];rfl,by rw[hj];simpa using hy0⟩,rfl⟩
 ·rw[if_pos (.inl hx0)];exact .inl ⟨.inl (by rw[hi];simpa using hx0),rfl⟩
def EF (x:Int×Tq):Prop:=(∃t,IsFr t∧x=(0,t))∨x=(1,false,0,0)∨x=(-1,false,0,0)
def ele (x y:Int×Tq):Prop:=ecmp x y≤0
theorem EOk.ef{k:Nat}{x:Int×Tq}(h:EOk k x):EF x:=by
 obtain⟨i,t⟩:=x
 by_cases h0:i=0
 ·subst h0;exact .inl ⟨t,h.fin rfl,rfl⟩
 ·obtain⟨h1,h2⟩:=h.inf h0;have h2:t=(false,0,0):=h2;subst h2
  rcases h1 with h1 | h1
  ·have h1:i=1:=h1;subst h1;exact .inr (.inl rfl)
  ·have h1:i=-1:=h1;subst h1;exact .inr (.inr rfl)
theorem ele_fin{a b:Tq}:ele (0,a) (0,b)↔fcmp a b≤0:=by unfold ele;rw[ecmp_fin]
theorem fcmp_self(a:Tq):fcmp a a≤0:=by rw[fcmp_nonpos];exact Int.le_refl _
theorem fcmp_trn{a b c:Tq}(hb:0 < b.2.2)(ha:0 < a.2.2)(hc:0 < c.2.2)(h:fcmp a b≤0)(h':fcmp b c≤0):fcmp a c≤0:=by
 rw[fcmp_nonpos] at h h' ⊢
 have kb:(0:Int) < (b.2.2:Int):=by omega
 have ka:(0:Int)≤(a.2.2:Int):=by omega
 have kc:(0:Int)≤(c.2.2:Int):=by omega
 have h1:=Int.mul_le_mul_of_nonneg_right h kc;have h2:=Int.mul_le_mul_of_nonneg_right h' ka;refine Int.le_of_mul_le_mul_right ?_ kb
 calc sv a.1 a.2.1*(c.2.2:Int)*(b.2.2:Int)=sv a.1 a.2.1*(b.2.2:Int)*(c.2.2:Int):=by grind
  _≤sv b.1 b.2.1*(a.2.2:Int)*(c.2.2:Int):=h1
  _=sv b.1 b.2.1*(c.2.2:Int)*(a.2.2:Int):=by grind
  _≤sv c.1 c.2.1*(b.2.2:Int)*(a.2.2:Int):=h2
  _=sv c.1 c.2.1*(a.2.2:Int)*(b.2.2:Int):=by grind
theorem fcmp_tot(a b:Tq):fcmp a b≤0∨fcmp b a≤0:=by
 rw[fcmp_nonpos,fcmp_nonpos];exact Int.le_total _ _
theorem ele_mI{x:Int×Tq}(h:EF x):ele (-1,false,0,0) x:=by
 rcases h with ⟨t,_,rfl⟩ | rfl | rfl
 ·show(-1:Int)≤0;decide
 ·show(-1:Int)≤0;decide
 ·show(0:Int)≤0;decide
theorem ele_pI{x:Int×Tq}(h:EF x):ele x (1,false,0,0):=by
 rcases h with ⟨t,_,rfl⟩ | rfl | rfl
 ·show(-1:Int)≤0;decide
 ·show(0:Int)≤0;decide
 ·show(-1:Int)≤0;decide
theorem pI_ele{x:Int×Tq}(h:EF x)(hl:ele (1,false,0,0) x):x=(1,false,0,0):=by
 rcases h with ⟨t,_,rfl⟩ | rfl | rfl
 ·exact absurd (show(1:Int)≤0 from hl) (by decide)
 ·rfl
 ·exact absurd (show(1:Int)≤0 from hl) (by decide)
theorem ele_mI_eq{x:Int×Tq}(h:EF x)(hl:ele x (-1,false,0,0)):x=(-1,false,0,0):=by
 rcases h with ⟨t,_,rfl⟩ | rfl | rfl
 ·exact absurd (show(1:Int)≤0 from hl) (by decide)
 ·exact absurd (show(1:Int)≤0 from hl) (by decide)
 ·rfl
theorem ele_refl{x:Int×Tq}(h:EF x):ele x x:=by
 rcases h with ⟨t,_,rfl⟩ | rfl | rfl
 ·exact ele_fin.2 (fcmp_self t)
 ·show(0:Int)≤0;decide
 ·show(0:Int)≤0;decide
theorem ele_trans{x y z:Int×Tq}(hx:EF x)(hy:EF y)(hz:EF z)(h:ele x y)(h':ele y z):ele x z:=by
 rcases hy with ⟨t,ht,rfl⟩ | rfl | rfl
 ·rcases hx with ⟨s,hs,rfl⟩ | rfl | rfl
  ·rcases hz with ⟨u,hu,rfl⟩ | rfl | rfl
   ·exact ele_fin.2 (fcmp_trn ht.pos hs.pos hu.pos (ele_fin.1 h) (ele_fin.1 h'))
   ·exact ele_pI (.inl ⟨s,hs,rfl⟩)
   ·exact absurd (show(1:Int)≤0 from h') (by decide)
  ·exact absurd (show(1:Int)≤0 from h) (by decide)
  ·exact ele_mI hz
 ·have:=pI_ele hz h';subst this;exact ele_pI hx
 ·have:=ele_mI_eq hx h;subst this;exact ele_mI hz
theorem ele_anti{x y:Int×Tq}(hx:EF x)(hy:EF y)(h:ele x y)(h':ele y x):x=y:=by
 rcases hx with ⟨s,hs,rfl⟩ | rfl | rfl
 ·rcases hy with ⟨t,ht,rfl⟩ | rfl | rfl
  ·have h1:=ele_fin.1 h;have h2:=ele_fin.1 h';rw[fcmp_nonpos] at h1 h2
   have:fcmp s t=0:=by
    unfold fcmp cmpI;rw[if_neg (by omega),if_neg (by omega)]
   rw[(fcmp_zero_iff hs ht).1 this]
  ·exact absurd (show(1:Int)≤0 from h') (by decide)
  ·exact absurd (show(1:Int)≤0 from h) (by decide)
 ·exact(pI_ele hy h).symm
 ·exact(ele_mI_eq hy h').symm
theorem ele_total{x y:Int×Tq}(hx:EF x)(hy:EF y):ele x y∨ele y x:=by
 rcases hx with ⟨s,hs,rfl⟩ | rfl | rfl
 ·rcases hy with ⟨t,ht,rfl⟩ | rfl | rfl
  ·rw[ele_fin,ele_fin];exact fcmp_tot s t
  ·exact .inl (ele_pI (.inl ⟨s,hs,rfl⟩))
  ·exact .inr (ele_mI (.inl ⟨s,hs,rfl⟩))
 ·exact .inr (ele_pI hy)
 ·exact .inl (ele_mI hy)
def eis (g:Int):Int×Tq:=if g=0 then (0,false,0,1) else (g,false,0,0)
theorem sgn3(t:Tq):sgn t.1 t.2.1=-1∨sgn t.1 t.2.1=0∨sgn t.1 t.2.1=1:=by
 unfold sgn
 split
 ·exact .inl rfl
 ·split
  ·exact .inr (.inl rfl)
  ·exact .inr (.inr rfl)
theorem EF.s3{x:Int×Tq}(h:EF x):esgn x=-1∨esgn x=0∨esgn x=1:=by
 rcases h with ⟨t,_,rfl⟩ | rfl | rfl
 ·exact sgn3 t
 ·exact .inr (.inr rfl)
 ·exact .inl rfl
theorem fmul_zero{a b:Tq}(ha:0 < a.2.2)(hb:0 < b.2.2)(h:a.2.1=0∨b.2.1=0):fmul a b=(false,0,1):=by
 have h0:a.2.1*b.2.1=0:=by rcases h with h | h<;>rw[h];exact Nat.zero_mul _;exact Nat.mul_zero _
 have hd:0 < a.2.2*b.2.2:=Nat.mul_pos ha hb;unfold fmul frac;rw[h0,Nat.gcd_zero_left,Nat.div_self hd,Nat.zero_div];simp
theorem sgn_z{t:Tq}(h:sgn t.1 t.2.1=0):t.2.1=0:=by
 unfold sgn at h
 split at h
 ·exact absurd h (by decide)
 ·split at h
  case isTrue h0=>exact h0
  ·exact absurd h (by decide)
theorem etm_fin{a b:Tq}(ha:IsFr a)(hb:IsFr b):etm (0,a) (0,b)=(0,fmul a b):=by
 have e:etm (0,a) (0,b)=if sgn a.1 a.2.1*sgn b.1 b.2.1=0 then (0,false,0,1) else (0,fmul a b):=rfl
 rw[e]
 split
 case isTrue h=>
  have h2:a.2.1=0∨b.2.1=0:=by
   rcases Int.mul_eq_zero.1 h with h | h
   ·exact .inl (sgn_z h)
   ·exact .inr (sgn_z h)
  rw[fmul_zero ha.pos hb.pos h2]
 ·rfl
theorem etm_inf{x y:Int×Tq}(h:x.1≠0∨y.1≠0):etm x y=eis (esgn x*esgn y):=by
 unfold etm eis
 split
 ·rfl
 ·rfl
theorem eis_ef{g:Int}(h:g=-1∨g=0∨g=1):EF (eis g):=by
 rcases h with rfl | rfl | rfl
 ·exact .inr (.inr rfl)
 ·exact .inl ⟨_,isFr_zero,rfl⟩
 ·exact .inr (.inl rfl)
theorem mul3{g h:Int}(hg:g=-1∨g=0∨g=1)(hh:h=-1∨h=0∨h=1):g*h=-1∨g*h=0∨g*h=1:=by
 rcases hg with rfl | rfl | rfl<;>rcases hh with rfl | rfl | rfl<;>decide
theorem EF.times{x y:Int×Tq}(hx:EF x)(hy:EF y):EF (etm x y):=by
 by_cases h:x.1≠0∨y.1≠0
 ·rw[etm_inf h];exact eis_ef (mul3 hx.s3 hy.s3)
 ·rcases hx with ⟨a,ha,rfl⟩ | rfl | rfl
  ·rcases hy with ⟨b,hb,rfl⟩ | rfl | rfl
   ·rw[etm_fin ha hb];exact .inl ⟨_,IsFr.mul ha.pos hb.pos,rfl⟩
   ·exact absurd (.inr (by decide)) h
   ·exact absurd (.inr (by decide)) h
  ·exact absurd (.inl (by decide)) h
  ·exact absurd (.inl (by decide)) h
theorem eis_mono{g h:Int}(hg:g=-1∨g=0∨g=1)(hh:h=-1∨h=0∨h=1)(hl:g≤h):ele (eis g) (eis h):=by
 rcases hg with rfl | rfl | rfl
 ·exact ele_mI (eis_ef hh)
 ·rcases hh with rfl | rfl | rfl
  ·exact absurd hl (by decide)
  ·exact ele_refl (eis_ef (.inr (.inl rfl)))
  ·exact ele_pI (eis_ef (.inr (.inl rfl)))
 ·rcases hh with rfl | rfl | rfl
  ·exact absurd hl (by decide)
  ·exact absurd hl (by decide)
  ·exact ele_refl (eis_ef (.inr (.inr rfl)))
theorem esgn_mono{x y:Int×Tq}(hx:EF x)(hy:EF y)(h:ele x y):esgn x≤esgn y:=by
 rcases hx with ⟨s,hs,rfl⟩ | rfl | rfl
 ·rcases hy with ⟨t,ht,rfl⟩ | rfl | rfl
  ·exact sgn_mono hs ht (ele_fin.1 h)
  ·have:esgn (0,s)=-1∨esgn (0,s)=0∨esgn (0,s)=1:=sgn3 s;have e:esgn (1,false,0,0)=1:=rfl;omega
  ·exact absurd (show(1:Int)≤0 from h) (by decide)
 ·rw[pI_ele hy h];exact Int.le_refl _
 ·have:=hy.s3;have e:esgn (-1,false,0,0)=-1:=rfl;omega
theorem etm_comm(x y:Int×Tq):etm x y=etm y x:=by
 have e:fmul x.2 y.2=fmul y.2 x.2:=by
  unfold fmul;rw[Nat.mul_comm x.2.2.1,Nat.mul_comm x.2.2.2,bne_comm]
 unfold etm;rw[Int.mul_comm,e]
 split
 ·rfl
 ·by_cases h:x.1≠0∨y.1≠0
  ·rw[if_pos h,if_pos h.symm]
  ·rw[if_neg h,if_neg (fun k=>h k.symm)]
theorem sgn_fnegM{t:Tq}(h:IsFr t):sgn (fneg t).1 (fneg t).2.1=- sgn t.1 t.2.1:=by
 have hz:=h.zs;unfold sgn fneg;cases hs:t.1
 ·by_cases h0:t.2.1=0
  ·simp [h0]
  ·simp [h0]
 ·have h0:t.2.1≠0:=fun h1=>absurd (hs.symm.trans (hz h1)) (by decide)
  simp [h0]
theorem EF.neg{x:Int×Tq}(h:EF x):EF (eneg x):=by
 rcases h with ⟨t,ht,rfl⟩ | rfl | rfl
 ·exact .inl ⟨_,ht.opp,rfl⟩
 ·exact .inr (.inr rfl)
 ·exact .inr (.inl rfl)
theorem esgn_neg{x:Int×Tq}(h:EF x):esgn (eneg x)=- esgn x:=by
 rcases h with ⟨t,ht,rfl⟩ | rfl | rfl
 ·exact sgn_fnegM ht
 ·rfl
 ·rfl
theorem fneg_two{t:Tq}(h:IsFr t):fneg (fneg t)=t:=by
 have hz:=h.zs;obtain⟨s,n,d⟩:=t;unfold fneg
 by_cases h0:n=0
 ·have:s=false:=hz h0;subst h0 this;rfl
 ·simp [h0]
theorem eneg_two{x:Int×Tq}(h:EF x):eneg (eneg x)=x:=by
 rcases h with ⟨t,ht,rfl⟩ | rfl | rfl
 ·show(0,fneg (fneg t))=_;rw[fneg_two ht]
 ·rfl
 ·rfl
theorem ele_neg{x y:Int×Tq}(hx:EF x)(hy:EF y)(h:ele x y):ele (eneg y) (eneg x):=by
 rcases hx with ⟨s,hs,rfl⟩ | rfl | rfl
 ·rcases hy with ⟨t,ht,rfl⟩ | rfl | rfl
  ·exact ele_fin.2 (fcmp_neg (ele_fin.1 h))
  ·exact ele_mI (.inl ⟨_,hs.opp,rfl⟩)
  ·exact absurd (show(1:Int)≤0 from h) (by decide)
 ·rw[pI_ele hy h];exact ele_refl (.inr (.inr rfl))
 ·exact ele_pI hy.neg
theorem fmul_neg{a b:Tq}(ha:IsFr a)(hb:IsFr b):fmul (fneg a) b=fneg (fmul a b):=by
 have fa:=FQ.selfP ha.pos;have fb:=FQ.selfP hb.pos;have h1:=fmul_FQ (fneg_FQ fa) fb;have h2:=fneg_FQ (fmul_FQ fa fb);have q:(0:Int) < (a.2.2:Int)*(b.2.2:Int):=Int.mul_pos (by have:=ha.pos;omega) (by have:=hb.pos;omega);rw[Int.neg_mul] at h1;exact fr_unique (IsFr.mul ha.opp.pos hb.pos) (IsFr.mul ha.pos hb.pos).opp h1 h2 q
theorem eis_neg{g:Int}(h:g=-1∨g=0∨g=1):eis (-g)=eneg (eis g):=by
 rcases h with rfl | rfl | rfl<;>rfl
theorem eneg_inf{x:Int×Tq}(h:x.1≠0):(eneg x).1≠0:=by
 unfold eneg;rw[if_neg h];show -x.1≠0;omega
theorem etm_neg{x y:Int×Tq}(hx:EF x)(hy:EF y):etm (eneg x) y=eneg (etm x y):=by
 by_cases h:x.1≠0∨y.1≠0
 ·have h':(eneg x).1≠0∨y.1≠0:=by
   rcases h with h | h
   ·exact .inl (eneg_inf h)
   ·exact .inr h
  rw[etm_inf h,etm_inf h',esgn_neg hx,Int.neg_mul,eis_neg (mul3 hx.s3 hy.s3)]
 ·rcases hx with ⟨a,ha,rfl⟩ | rfl | rfl
  ·rcases hy with ⟨b,hb,rfl⟩ | rfl | rfl
   ·show etm (0,fneg a) (0,b)=_;rw[etm_fin ha hb,etm_fin ha.opp hb,fmul_neg ha hb];rfl
   ·exact absurd (.inr (by decide)) h
   ·exact absurd (.inr (by decide)) h
  ·exact absurd (.inl (by decide)) h
  ·exact absurd (.inl (by decide)) h
theorem fmul_mono{t a b:Tq}(ht:IsFr t)(ha:IsFr a)(hb:IsFr b)(h0:0≤sgn t.1 t.2.1)(h:fcmp a b≤0):fcmp (fmul t a) (fmul t b)≤0:=by
 have ft:=FQ.selfP ht.pos;have fa:=FQ.selfP ha.pos;have fb:=FQ.selfP hb.pos
 have pt:(0:Int) < (t.2.2:Int):=by have:=ht.pos;omega
 have pa:(0:Int) < (a.2.2:Int):=by have:=ha.pos;omega
 have pb:(0:Int) < (b.2.2:Int):=by have:=hb.pos;omega
 rw[fcmp_Q (fmul_FQ ft fa) (fmul_FQ ft fb) (Int.mul_pos pt pa) (Int.mul_pos pt pb),cmpI_nonpos];rw[fcmp_nonpos] at h
 have hs:0≤sv t.1 t.2.1:=by
  unfold sv;rw[sgn_nn h0];simp
 have:=Int.mul_le_mul_of_nonneg_left h (Int.mul_nonneg hs (Int.le_of_lt pt))
 calc sv t.1 t.2.1*sv a.1 a.2.1*((t.2.2:Int)*(b.2.2:Int))=sv t.1 t.2.1*(t.2.2:Int)*(sv a.1 a.2.1*(b.2.2:Int)):=by grind
  _≤sv t.1 t.2.1*(t.2.2:Int)*(sv b.1 b.2.1*(a.2.2:Int)):=this
  _=sv t.1 t.2.1*sv b.1 b.2.1*((t.2.2:Int)*(a.2.2:Int)):=by grind
theorem etm_mono{x a b:Int×Tq}(hx:EF x)(ha:EF a)(hb:EF b)(h0:0≤esgn x)(h:ele a b):ele (etm x a) (etm x b):=by
 have hm:=esgn_mono ha hb h
 by_cases hi:x.1=0
 ·rcases hx with ⟨t,ht,rfl⟩ | rfl | rfl
  ·have h0:0≤sgn t.1 t.2.1:=h0
   rcases ha with ⟨s,hs,rfl⟩ | rfl | rfl
   ·rcases hb with ⟨u,hu,rfl⟩ | rfl | rfl
    ·rw[etm_fin ht hs,etm_fin ht hu];exact ele_fin.2 (fmul_mono ht hs hu h0 (ele_fin.1 h))
    ·rw[etm_inf (y:=(1,false,0,0)) (.inr (by decide))]
     rcases sgn3 t with e | e | e
     ·omega
     ·have e1:esgn ((0,t):Int×Tq)=0:=e;rw[e1,Int.zero_mul,etm_fin ht hs,fmul_zero ht.pos hs.pos (.inl (sgn_z e))];exact ele_refl (.inl ⟨_,isFr_zero,rfl⟩)
     ·have e1:esgn ((0,t):Int×Tq)=1:=e;rw[e1];exact ele_pI (EF.times (.inl ⟨t,ht,rfl⟩) (.inl ⟨s,hs,rfl⟩))
    ·exact absurd (show(1:Int)≤0 from h) (by decide)
   ·rw[pI_ele hb h];exact ele_refl (EF.times (.inl ⟨t,ht,rfl⟩) (.inr (.inl rfl)))
   ·rw[etm_inf (y:=(-1,false,0,0)) (.inr (by decide))]
    rcases sgn3 t with e | e | e
    ·omega
    ·have e1:esgn ((0,t):Int×Tq)=0:=e;rw[e1,Int.zero_mul]
     have e2:etm (0,t) b=(0,false,0,1):=by unfold etm;rw[e1,Int.zero_mul,if_pos rfl]
     rw[e2];exact ele_refl (.inl ⟨_,isFr_zero,rfl⟩)
    ·have e1:esgn ((0,t):Int×Tq)=1:=e;rw[e1];exact ele_mI (EF.times (.inl ⟨t,ht,rfl⟩) hb)
  ·exact absurd hi (by decide)
  ·exact absurd hi (by decide)
 ·rw[etm_inf (.inl hi),etm_inf (.inl hi)];refine eis_mono (mul3 hx.s3 ha.s3) (mul3 hx.s3 hb.s3) ?_;exact Int.mul_le_mul_of_nonneg_left hm h0
theorem etm_mono'{x a b:Int×Tq}(hx:EF x)(ha:EF a)(hb:EF b)(h0:0≤esgn x)(h:ele a b):ele (etm a x) (etm b x):=by
 rw[etm_comm a,etm_comm b];exact etm_mono hx ha hb h0 h
theorem etm_turn{x a b:Int×Tq}(hx:EF x)(ha:EF a)(hb:EF b)(h0:esgn x≤0)(h:ele a b):ele (etm x b) (etm x a):=by
 have k:=etm_mono hx.neg ha hb (by rw[esgn_neg hx];omega) h;rw[etm_neg hx ha,etm_neg hx hb] at k;have k2:=ele_neg (hx.times ha).neg (hx.times hb).neg k
 rwa [eneg_two (hx.times ha),eneg_two (hx.times hb)] at k2
theorem etm_turn'{x a b:Int×Tq}(hx:EF x)(ha:EF a)(hb:EF b)(h0:esgn x≤0)(h:ele a b):ele (etm b x) (etm a x):=by
 rw[etm_comm a,etm_comm b];exact etm_turn hx ha hb h0 h
def IsMin (L c1 c2 c3 c4:Int×Tq):Prop:=(L=c1∨L=c2∨L=c3∨L=c4)∧ele L c1∧ele L c2∧ele L c3∧ele L c4
def IsMax (L c1 c2 c3 c4:Int×Tq):Prop:=(L=c1∨L=c2∨L=c3∨L=c4)∧ele c1 L∧ele c2 L∧ele c3 L∧ele c4 L
def E4 (c1 c2 c3 c4:Int×Tq):Prop:=EF c1∧EF c2∧EF c3∧EF c4
theorem IsMin.ef{L c1 c2 c3 c4:Int×Tq}(h:IsMin L c1 c2 c3 c4)(k:E4 c1 c2 c3 c4):EF L:=by
 rcases h.1 with rfl | rfl | rfl | rfl
 ·exact k.1
 ·exact k.2.1
 ·exact k.2.2.1
 ·exact k.2.2.2
theorem IsMax.ef{L c1 c2 c3 c4:Int×Tq}(h:IsMax L c1 c2 c3 c4)(k:E4 c1 c2 c3 c4):EF L:=by
 rcases h.1 with rfl | rfl | rfl | rfl
 ·exact k.1
 ·exact k.2.1
 ·exact k.2.2.1
 ·exact k.2.2.2
theorem IsMax.neg{U c1 c2 c3 c4:Int×Tq}(k:E4 c1 c2 c3 c4)(h:IsMax U (eneg c1) (eneg c2) (eneg c3) (eneg c4)):IsMin (eneg U) c1 c2 c3 c4:=by
 have hu:EF U:=h.ef ⟨k.1.neg,k.2.1.neg,k.2.2.1.neg,k.2.2.2.neg⟩
 have f:∀{c:Int×Tq},EF c→ele (eneg c) U→ele (eneg U) c:=by
  intro c hc h1;have:=ele_neg hc.neg hu h1
  rwa [eneg_two hc] at this
 refine⟨?_,f k.1 h.2.1,f k.2.1 h.2.2.1,f k.2.2.1 h.2.2.2.1,f k.2.2.2 h.2.2.2.2⟩
 rcases h.1 with e | e | e | e<;>rw[e]
 ·exact .inl (eneg_two k.1)
 ·exact .inr (.inl (eneg_two k.2.1))
 ·exact .inr (.inr (.inl (eneg_two k.2.2.1)))
 ·exact .inr (.inr (.inr (eneg_two k.2.2.2)))
theorem IsMin.neg{U c1 c2 c3 c4:Int×Tq}(k:E4 c1 c2 c3 c4)(h:IsMin U (eneg c1) (eneg c2) (eneg c3) (eneg c4)):IsMax (eneg U) c1 c2 c3 c4:=by
 have hu:EF U:=h.ef ⟨k.1.neg,k.2.1.neg,k.2.2.1.neg,k.2.2.2.neg⟩
 have f:∀{c:Int×Tq},EF c→ele U (eneg c)→ele c (eneg U):=by
  intro c hc h1;have:=ele_neg hu hc.neg h1
  rwa [eneg_two hc] at this
 refine⟨?_,f k.1 h.2.1,f k.2.1 h.2.2.1,f k.2.2.1 h.2.2.2.1,f k.2.2.2 h.2.2.2.2⟩
 rcases h.1 with e | e | e | e<;>rw[e]
 ·exact .inl (eneg_two k.1)
 ·exact .inr (.inl (eneg_two k.2.1))
 ·exact .inr (.inr (.inl (eneg_two k.2.2.1)))
 ·exact .inr (.inr (.inr (eneg_two k.2.2.2)))
def sscale (a b:Ts):Ts:=(etm (if 0 < esgn b.1 then a.1 else a.2.1) b.1,etm (if esgn b.2.1 < 0 then a.1 else a.2.1) b.2.1,false)
def stm (a b:Ts):Ts:=
 if 0≤esgn a.1 then sscale a b else if esgn a.2.1≤0 then sneg (sscale (sneg a) b) else if 0≤esgn b.1 then sscale b a else if esgn b.2.1≤0 then sneg (sscale (sneg b) a) else (emin (etm a.1 b.2.1) (etm a.2.1 b.1),emax (etm a.1 b.1) (etm a.2.1 b.2.1),false)
def SF (a:Ts):Prop:=EF a.1∧EF a.2.1∧ele a.1 a.2.1
theorem SF.neg{a:Ts}(h:SF a):SF (sneg a):=⟨h.2.1.neg,h.1.neg,ele_neg h.1 h.2.1 h.2.2⟩
theorem SF.four{a b:Ts}(h:SF a)(h':SF b):E4 (etm a.1 b.1) (etm a.1 b.2.1) (etm a.2.1 b.1) (etm a.2.1 b.2.1):=⟨h.1.times h'.1,h.1.times h'.2.1,h.2.1.times h'.1,h.2.1.times h'.2.1⟩
theorem sscale_ends{a b:Ts}(h:SF a)(h':SF b)(h0:0≤esgn a.1):
  IsMin (sscale a b).1 (etm a.1 b.1) (etm a.1 b.2.1) (etm a.2.1 b.1) (etm a.2.1 b.2.1)∧IsMax (sscale a b).2.1 (etm a.1 b.1) (etm a.1 b.2.1) (etm a.2.1 b.1) (etm a.2.1 b.2.1):=by
 obtain⟨k1,k2,k3,k4⟩:=h.four h';obtain⟨a1,a2,al⟩:=h;obtain⟨b1,b2,bl⟩:=h';have h2:0≤esgn a.2.1:=Int.le_trans h0 (esgn_mono a1 a2 al);have m1:=etm_mono a1 b1 b2 h0 bl;have m2:=etm_mono a2 b1 b2 h2 bl;constructor
 ·show IsMin (etm (if 0 < esgn b.1 then a.1 else a.2.1) b.1) _ _ _ _
  split
  case isTrue g=>
   have m3:=etm_mono' b1 a1 a2 (by omega) al;exact⟨.inl rfl,ele_refl k1,m1,m3,ele_trans k1 k3 k4 m3 m2⟩
  case isFalse g=>
   have m3:=etm_turn' b1 a1 a2 (by omega) al;exact⟨.inr (.inr (.inl rfl)),m3,ele_trans k3 k1 k2 m3 m1,ele_refl k3,m2⟩
 ·show IsMax (etm (if esgn b.2.1 < 0 then a.1 else a.2.1) b.2.1) _ _ _ _
  split
  case isTrue g=>
   have m3:=etm_turn' b2 a1 a2 (by omega) al;exact⟨.inr (.inl rfl),m1,ele_refl k2,ele_trans k3 k4 k2 m2 m3,m3⟩
  case isFalse g=>
   have m3:=etm_mono' b2 a1 a2 (by omega) al;exact⟨.inr (.inr (.inr rfl)),ele_trans k1 k2 k4 m1 m3,m3,m2,ele_refl k4⟩
theorem IsMin.p1{L c1 c2 c3 c4:Int×Tq}(h:IsMin L c3 c4 c1 c2):IsMin L c1 c2 c3 c4:=by
 obtain⟨h0,h1,h2,h3,h4⟩:=h;refine⟨?_,h3,h4,h1,h2⟩
 rcases h0 with e | e | e | e
 ·exact .inr (.inr (.inl e))
 ·exact .inr (.inr (.inr e))
 ·exact .inl e
 ·exact .inr (.inl e)
theorem IsMax.p1{L c1 c2 c3 c4:Int×Tq}(h:IsMax L c3 c4 c1 c2):IsMax L c1 c2 c3 c4:=by
 obtain⟨h0,h1,h2,h3,h4⟩:=h;refine⟨?_,h3,h4,h1,h2⟩
 rcases h0 with e | e | e | e
 ·exact .inr (.inr (.inl e))
 ·exact .inr (.inr (.inr e))
 ·exact .inl e
 ·exact .inr (.inl e)
theorem IsMin.p2{L c1 c2 c3 c4:Int×Tq}(h:IsMin L c1 c3 c2 c4):IsMin L c1 c2 c3 c4:=by
 obtain⟨h0,h1,h2,h3,h4⟩:=h;refine⟨?_,h1,h3,h2,h4⟩
 rcases h0 with e | e | e | e
 ·exact .inl e
 ·exact .inr (.inr (.inl e))
 ·exact .inr (.inl e)
 ·exact .inr (.inr (.inr e))
theorem IsMax.p2{L c1 c2 c3 c4:Int×Tq}(h:IsMax L c1 c3 c2 c4):IsMax L c1 c2 c3 c4:=by
 obtain⟨h0,h1,h2,h3,h4⟩:=h;refine⟨?_,h1,h3,h2,h4⟩
 rcases h0 with e | e | e | e
 ·exact .inl e
 ·exact .inr (.inr (.inl e))
 ·exact .inr (.inl e)
 ·exact .inr (.inr (.inr e))
theorem sscale_neg{a b:Ts}(h:SF a)(h':SF b)(h0:esgn a.2.1≤0):
  IsMin (sneg (sscale (sneg a) b)).1 (etm a.1 b.1) (etm a.1 b.2.1) (etm a.2.1 b.1) (etm a.2.1 b.2.1)∧IsMax (sneg (sscale (sneg a) b)).2.1 (etm a.1 b.1) (etm a.1 b.2.1) (etm a.2.1 b.1) (etm a.2.1 b.2.1):=by
 have k:=sscale_ends h.neg h' (by show 0≤esgn (eneg a.2.1);rw[esgn_neg h.2.1];omega);have e1:etm (sneg a).1 b.1=eneg (etm a.2.1 b.1):=etm_neg h.2.1 h'.1;have e2:etm (sneg a).1 b.2.1=eneg (etm a.2.1 b.2.1):=etm_neg h.2.1 h'.2.1;have e3:etm (sneg a).2.1 b.1=eneg (etm a.1 b.1):=etm_neg h.1 h'.1;have e4:etm (sneg a).2.1 b.2.1=eneg (etm a.1 b.2.1):=etm_neg h.1 h'.2.1;rw[e1,e2,e3,e4] at k;obtain⟨k1,k2,k3,k4⟩:=h.four h';exact⟨(IsMax.neg ⟨k3,k4,k1,k2⟩ k.2).p1,(IsMin.neg ⟨k3,k4,k1,k2⟩ k.1).p1⟩
theorem emin_two{x y:Int×Tq}(hx:EF x)(hy:EF y):(emin x y=x∨emin x y=y)∧ele (emin x y) x∧ele (emin x y) y:=by
 unfold emin
 split
 case isTrue h=>exact⟨.inr rfl,by unfold ele;omega,ele_refl hy⟩
 case isFalse h=>
  refine⟨.inl rfl,ele_refl hx,?_⟩
  rcases ele_total hx hy with k | k
  ·exact k
  ·have k0:ecmp y x=0:=by unfold ele at k;omega
   rcases hx with ⟨s,hs,rfl⟩ | rfl | rfl
   ·rcases hy with ⟨t,ht,rfl⟩ | rfl | rfl
    ·rw[ecmp_fin] at k0;rw[(fcmp_zero_iff ht hs).1 k0];exact ele_fin.2 (fcmp_self _)
    ·exact absurd (show(1:Int)=0 from k0) (by decide)
    ·exact absurd (show(-1:Int)=0 from k0) (by decide)
   ·rcases hy with ⟨t,ht,rfl⟩ | rfl | rfl
    ·exact absurd (show(-1:Int)=0 from k0) (by decide)
    ·exact ele_refl (.inr (.inl rfl))
    ·exact absurd (show(-1:Int)=0 from k0) (by decide)
   ·exact ele_mI hy
theorem emax_two{x y:Int×Tq}(hx:EF x)(hy:EF y):(emax x y=x∨emax x y=y)∧ele x (emax x y)∧ele y (emax x y):=by
 unfold emax
 split
 case isTrue h=>
  refine⟨.inr rfl,?_,ele_refl hy⟩
  rcases ele_total hx hy with k | k
  ·exact k
  ·unfold ele at k;omega
 case isFalse h=>exact⟨.inl rfl,ele_refl hx,by unfold ele;omega⟩
theorem stm_ends{a b:Ts}(h:SF a)(h':SF b):
  (IsMin (stm a b).1 (etm a.1 b.1) (etm a.1 b.2.1) (etm a.2.1 b.1) (etm a.2.1 b.2.1)∧IsMax (stm a b).2.1 (etm a.1 b.1) (etm a.1 b.2.1) (etm a.2.1 b.1) (etm a.2.1 b.2.1))∧(stm a b).2.2=false:=by
 unfold stm
 split
 case isTrue g=>exact⟨sscale_ends h h' g,rfl⟩
 split
 case isTrue g=>exact⟨sscale_neg h h' g,rfl⟩
 split
 case isTrue g=>
  have k:=sscale_ends h' h g;rw[etm_comm b.1 a.1,etm_comm b.1 a.2.1,etm_comm b.2.1 a.1,etm_comm b.2.1 a.2.1] at k;exact⟨⟨k.1.p2,k.2.p2⟩,rfl⟩
 split
 case isTrue g=>
  have k:=sscale_neg h' h g;rw[etm_comm b.1 a.1,etm_comm b.1 a.2.1,etm_comm b.2.1 a.1,etm_comm b.2.1 a.2.1] at k;exact⟨⟨k.1.p2,k.2.p2⟩,rfl⟩
 case isFalse g1 g2 g3 g4=>
  obtain⟨k1,k2,k3,k4⟩:=h.four h';obtain⟨a1,a2,al⟩:=h;obtain⟨b1,b2,bl⟩:=h';have m1:=etm_turn a1 b1 b2 (by omega) bl;have m2:=etm_mono a2 b1 b2 (by omega) bl;have m3:=etm_turn' b1 a1 a2 (by omega) al;have m4:=etm_mono' b2 a1 a2 (by omega) al;have n:=emin_two k2 k3;have x:=emax_two k1 k4
  have en:EF (emin (etm a.1 b.2.1) (etm a.2.1 b.1)):=by rcases n.1 with e | e<;>rw[e]<;>assumption
  have ex:EF (emax (etm a.1 b.1) (etm a.2.1 b.2.1)):=by rcases x.1 with e | e<;>rw[e]<;>assumption
  refine⟨⟨⟨?_,ele_trans en k2 k1 n.2.1 m1,n.2.1,n.2.2,ele_trans en k2 k4 n.2.1 m4⟩,⟨?_,x.2.1,ele_trans k2 k1 ex m1 x.2.1,ele_trans k3 k4 ex m2 x.2.2,x.2.2⟩⟩,rfl⟩
  ·rcases n.1 with e | e
   ·exact .inr (.inl e)
   ·exact .inr (.inr (.inl e))
  ·rcases x.1 with e | e
   ·exact .inl e
   ·exact .inr (.inr (.inr e))
end Go.Proofs.YteblinkehldghaaGreatDoor
