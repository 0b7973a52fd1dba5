/- The square and the product of the program, rounded: codes, values, the one inside the other. -/
import Derived.Test.YteblinkehldghaaGreatDoorLatIQ
import Derived.Test.YteblinkehldghaaGreatDoorLeaMQ
import Derived.Test.YteblinkehldghaaGreatDoorQuoIQ
import Derived.Test.YteblinkehldghaaGreatDoorSqrMQ
namespace Go.Proofs.YteblinkehldghaaGreatDoor
open Go.RowKit Dg
theorem gdn_mono{s t:Tq}(p:Nat)(hs:IsFr s)(ht:IsFr t)(h:fcmp s t≤0):fcmp (gdn s p) (gdn t p)≤0:=
 gdn_least p hs.pos ht.pos (fcmp_trn hs.pos (gdn_fr p).pos ht.pos (gdn_le p hs.pos) h)
theorem gup_mono{s t:Tq}(p:Nat)(hs:IsFr s)(ht:IsFr t)(h:fcmp s t≤0):fcmp (gup s p) (gup t p)≤0:=
 fcmp_neg (gdn_mono p ht.opp hs.opp (fcmp_neg h))
theorem round_in{P Q P' Q':Tq}{X Y X' Y':Bool}(o:pord P Q X Y)(o':pord P' Q' X' Y')(hl:ele (mkS P' Q' X' Y').1 (mkS P Q X Y).1)(hu:ele (mkS P Q X Y).2.1 (mkS P' Q' X' Y').2.1)(p:Nat):
  jwithin (jround (mkJ P Q X Y) p) (jround (mkJ P' Q' X' Y') p)=true:=by
 have hL:(X' || (!X && decide (fcmp (gdn P' p) (gdn P p)≤0)))=true:=by
  cases X'
  ·cases X
   ·have k:fcmp P' P≤0:=ele_fin.1 hl;have g:=gdn_mono p (o'.1 rfl) (o.1 rfl) k;show decide _=true;exact decide_eq_true g
   ·have k:=ele_mI_eq (.inl ⟨_,o'.1 rfl,rfl⟩) (show ele (0,P') (-1,false,0,0) from hl);exact absurd (show(0:Int)=-1 from congrArg Prod.fst k) (by decide)
  ·rfl
 have hU:(Y' || (!Y && decide (fcmp (gup Q p) (gup Q' p)≤0)))=true:=by
  cases Y'
  ·cases Y
   ·have k:fcmp Q Q'≤0:=ele_fin.1 hu;have g:=gup_mono p (o.2.1 rfl) (o'.2.1 rfl) k;show decide _=true;exact decide_eq_true g
   ·have k:=pI_ele (.inl ⟨_,o'.2.1 rfl,rfl⟩) (show ele (1,false,0,0) (0,Q') from hu);exact absurd (show(0:Int)=1 from congrArg Prod.fst k) (by decide)
  ·rfl
 have h:((X' || (!X && decide (fcmp (gdn P' p) (gdn P p)≤0))) && (Y' || (!Y && decide (fcmp (gup Q p) (gup Q' p)≤0))))=true:=by rw[hL,hU];rfl
 cases X<;>cases X'<;>cases Y<;>cases Y'<;>exact h
theorem srd_giv{P Q:Tq}{X Y:Bool}(hP:X=false→QFit P)(hQ:Y=false→QFit Q)(ho:pord P Q X Y):srd (giv (mkS P Q X Y))=mkS P Q X Y:=by
 cases X<;>cases Y
 ·show sfrom (0,fr (outF P)) (0,fr (outF Q))=((0,P),(0,Q),false);rw[(hP rfl).fr,(hQ rfl).fr];show((0,P),(0,Q),decide (0 < ecmp (0,P) (0,Q)))=((0,P),(0,Q),false);have k:=ho.2.2 rfl rfl;rw[ecmp_fin,decide_eq_false (by omega)]
 ·show sfrom (0,fr (outF P)) (1,false,0,0)=((0,P),(1,false,0,0),false);rw[(hP rfl).fr];rfl
 ·show sfrom (-1,false,0,0) (0,fr (outF Q))=((-1,false,0,0),(0,Q),false);rw[(hQ rfl).fr];rfl
 ·rfl
def FE (x:Int×Tq):Prop:=x.1=0→QFit x.2
theorem FE.neg{x:Int×Tq}(h:FE x):FE (eneg x):=by
 unfold eneg
 split
 case isTrue g=>exact fun _=>(h g).neg
 case isFalse g=>exact fun k=>absurd (show -x.1=0 from k) (by omega)
theorem sabs_form{P Q:Tq}{X Y:Bool}(hP:X=false→QFit P)(hQ:Y=false→QFit Q)(ho:pord P Q X Y):
  ∃P' Q' X' Y',sabs (mkS P Q X Y)=mkS P' Q' X' Y'∧pord P' Q' X' Y'∧(X'=false→QFit P')∧(Y'=false→QFit Q'):=by
 have hs:=mkS_sf ho;have lo:=mkS_lo P Q X Y
 have f1:FE (mkS P Q X Y).1:=by
  cases X
  ·exact fun _=>hP rfl
  ·exact fun h=>absurd (show(-1:Int)=0 from h) (by decide)
 have f2:FE (mkS P Q X Y).2.1:=by
  cases Y
  ·exact fun _=>hQ rfl
  ·exact fun h=>absurd (show(1:Int)=0 from h) (by decide)
 have hv:(mkS P Q X Y).2.2=false:=rfl;generalize mkS P Q X Y=S at *;have k:=sabs_sf hs
 have n1:LoE S.1→HiE (eneg S.1):=by
  rintro(h | h)
  ·unfold eneg;rw[if_pos h];exact .inl rfl
  ·rw[h];exact .inr (by decide)
 have n2:HiE S.2.1→LoE (eneg S.2.1):=by
  rintro(h | h)
  ·unfold eneg;rw[if_pos h];exact .inl rfl
  ·rw[h];exact .inr (by decide)
 have g:LoE (sabs S).1∧HiE (sabs S).2.1∧(sabs S).2.2=false∧FE (sabs S).1∧FE (sabs S).2.1:=by
  unfold sabs
  split
  ·exact⟨lo.1,lo.2,hv,f1,f2⟩
  split
  ·exact⟨n2 lo.2,n1 lo.1,rfl,f2.neg,f1.neg⟩
  ·refine⟨.inl rfl,?_,rfl,fun _=>QFit.zero,?_⟩
   ·show HiE (emax (eneg S.1) S.2.1)
    rcases(emax_two hs.1.neg hs.2.1).1 with e | e
    ·rw[e];exact n1 lo.1
    ·rw[e];exact lo.2
   ·show FE (emax (eneg S.1) S.2.1)
    rcases(emax_two hs.1.neg hs.2.1).1 with e | e
    ·rw[e];exact f1.neg
    ·rw[e];exact f2
 refine⟨_,_,_,_,mkS_of g.1 g.2.1 g.2.2.1,pord_of k.1,fun h=>g.2.2.2.1 ?_,fun h=>g.2.2.2.2 ?_⟩
 ·simpa using h
 ·simpa using h
theorem gzero_api:gzero=japi (mkJ (false,0,1) (false,0,1) false false):=by decide+kernel
theorem pow_two(a b:Tq)(x y:Bool)(p:Int):kcode (pvalid 2 p) (pzero 2) 10 (spr 2 p) (a,b,x,y)=ocode (prec p) (spr 2 p) (a,b,x,y)∧kval (pvalid 2 p) (pzero 2) (spr 2 p) (a,b,x,y)=oval (prec p) (spr 2 p) (a,b,x,y):=by
 have hv:pvalid 2 p=prec p:=by unfold pvalid;simp
 have hk:kon (prec p) (pzero 2) (a,b,x,y)=false:=by
  unfold kon pzero;simp
 unfold kcode kval;rw[hv,hk];exact⟨rfl,rfl⟩
theorem sq_two{a b:Tq}{x y:Bool}(p:Int)(he:(srd (a,b,x,y)).2.2=false):
  ∃r t:Jt,jwithin r t=true∧(sbig (spr 2 p (srd (a,b,x,y)))=false→JGood r∧giv (spr 2 p (srd (a,b,x,y)))=japi r)∧
   (sbig (srnd p (stm (srd (a,b,x,y)) (srd (a,b,x,y))))=false→JGood t∧giv (srnd p (stm (srd (a,b,x,y)) (srd (a,b,x,y))))=japi t):=by
 obtain⟨P,Q,X,Y,hf,ho⟩:=spow_form (n:=2) he (by unfold pzero;rfl);obtain⟨P1,Q1,X1,Y1,hf1,ho1⟩:=stm_form he he
 have hs:SF (srd (a,b,x,y)):=by rw[srd_mk he];exact mkS_sf (srd_ord he)
 have hi:=sq_in hs;rw[hf,hf1] at hi
 have e:spr 2 p (srd (a,b,x,y))=sround (mkS P Q X Y) p.toNat:=by unfold spr;rw[hf]
 have e1:srnd p (stm (srd (a,b,x,y)) (srd (a,b,x,y)))=sround (mkS P1 Q1 X1 Y1) p.toNat:=by unfold srnd;rw[hf1]
 rw[e,e1];have k:=rnd_ends (A:=P) (B:=Q) (x:=X) (y:=Y) (p:=p.toNat);have k1:=rnd_ends (A:=P1) (B:=Q1) (x:=X1) (y:=Y1) (p:=p.toNat);refine⟨_,_,round_in ho ho1 hi.1 hi.2 p.toNat,fun h=>⟨ho.fr.round p.toNat (k.1.trans h),k.2.symm⟩,fun h=>⟨ho1.fr.round p.toNat (k1.1.trans h),k1.2.symm⟩⟩
theorem abs_two(a b:Tq)(x y:Bool):∃u:Jt,JGood u∧iop sabs (a,b,x,y)=japi u∧ilarge (japi u)=false∧
  (ilarge (a,b,x,y)=false→(srd (a,b,x,y)).2.2=true→(srd (japi u)).2.2=true)∧
  (ilarge (a,b,x,y)=false→(srd (a,b,x,y)).2.2=false→srd (japi u)=sabs (srd (a,b,x,y))):=by
 have hsm:∀{u:Jt},JGood u→ilarge (japi u)=false:=fun {u} h=>by
  show(large (japi u).1.2.1 (japi u).1.2.2 || large (japi u).2.1.2.1 (japi u).2.1.2.2)=false;rw[h.ends.1.1,h.ends.2.1];rfl
 cases hl:ilarge (a,b,x,y)
 ·obtain⟨u,hu,hv⟩:=abs_ok a b x y (by unfold icode;rw[hl];rfl);refine⟨u,hu,hv,hsm hu,fun _ he=>?_,fun _ he=>?_⟩
  ·rw[←hv];unfold iop;rw[hl,he];show(srd (giv (srd (a,b,x,y)))).2.2=true;unfold giv;rw[he];show(srd ((false,1,0),(false,0,0),false,false)).2.2=true;decide+kernel
  ·rw[←hv];have h':(large a.2.1 a.2.2 || large b.2.1 b.2.2)=false:=hl;rw[Bool.or_eq_false_iff] at h';obtain⟨P,Q,X,Y,hf,ho,f1,f2⟩:=sabs_form (X:=x) (Y:=y) (fun _=>QFit.of h'.1) (fun _=>QFit.of h'.2) (srd_ord he);unfold iop;rw[hl,he];show srd (giv (sabs (srd (a,b,x,y))))=sabs (srd (a,b,x,y));rw[srd_mk he,hf];exact srd_giv f1 f2 ho
 ·have hu:JGood (mkJ (false,0,1) (false,0,1) false false):=.inr ⟨rfl,.inr ⟨rfl,QFit.zero⟩,.inr ⟨rfl,QFit.zero⟩,fun _ _=>by decide⟩;refine⟨_,hu,?_,hsm hu,fun h=>absurd h (by simp),fun h=>absurd h (by simp)⟩;unfold iop;rw[hl];exact gzero_api
theorem sq_codes(a b:Tq)(x y:Bool)(p:Int):
  (ocode (prec p) (spr 2 p) (a,b,x,y)=0∧rcode p stm (a,b,x,y) (a,b,x,y)=0)∨
  (ocode (prec p) (spr 2 p) (a,b,x,y)=1∧rcode p stm (a,b,x,y) (a,b,x,y)=1)∨(ocode (prec p) (spr 2 p) (a,b,x,y)=2∧rcode p stm (a,b,x,y) (a,b,x,y)=2)∨
  (ocode (prec p) (spr 2 p) (a,b,x,y)=1∧rcode p stm (a,b,x,y) (a,b,x,y)=0)∨(ocode (prec p) (spr 2 p) (a,b,x,y)=0∧rcode p stm (a,b,x,y) (a,b,x,y)=1):=by
 unfold ocode rcode b2code;rw[Bool.or_self];cases ilarge (a,b,x,y)
 ·cases prec p
  ·exact .inr (.inr (.inl ⟨rfl,rfl⟩))
  ·cases (srd (a,b,x,y)).2.2
   ·cases sbig (spr 2 p (srd (a,b,x,y)))<;>cases h:sbig ((fun x y=>srnd p (stm x y)) (srd (a,b,x,y)) (srd (a,b,x,y)))
    ·exact .inl ⟨rfl,rfl⟩
    ·exact .inr (.inr (.inr (.inr ⟨rfl,rfl⟩)))
    ·exact .inr (.inr (.inr (.inl ⟨rfl,rfl⟩)))
    ·exact .inr (.inl ⟨rfl,rfl⟩)
   ·exact .inl ⟨rfl,rfl⟩
 ·exact .inr (.inl ⟨rfl,rfl⟩)
theorem op_void{f:St→St→St}{p:Int}{i j:It}(hi:ilarge i=false)(hj:ilarge j=false)(hv:prec p=true)(he:(srd i).2.2=true):rcode p f i j=0∧rval p f i j=japi jnone:=by
 unfold rcode rval b2code b2val;rw[hi,hj,hv,he];refine⟨rfl,?_⟩;show giv (srd i)=japi jnone;unfold giv;rw[he];rfl
theorem op_full{f:St→St→St}{p:Int}{i j:It}(hi:ilarge i=false)(hj:ilarge j=false)(hv:prec p=true)(he:(srd i).2.2=false)(he':(srd j).2.2=false):
  rcode p f i j=(if sbig (srnd p (f (srd i) (srd j))) then 1 else 0)∧rval p f i j=(if sbig (srnd p (f (srd i) (srd j))) then gzero else giv (srnd p (f (srd i) (srd j)))):=by
 unfold rcode rval b2code b2val;rw[hi,hj,hv,he,he'];exact⟨rfl,rfl⟩
theorem sq_ok{a b:Tq}{x y:Bool}{p:Int}(h:ocode (prec p) (spr 2 p) (a,b,x,y)=0)(h':rcode p stm (a,b,x,y) (a,b,x,y)=0):
  ∃r t u:Jt,JGood r∧JGood t∧JGood u∧oval (prec p) (spr 2 p) (a,b,x,y)=japi r∧rval p stm (a,b,x,y) (a,b,x,y)=japi t∧iop sabs (a,b,x,y)=japi u∧icode (a,b,x,y)=0∧jwithin r t=true∧
   rcode p stm (japi u) (japi u)=0∧rval p stm (japi u) (japi u)=japi r:=by
 obtain⟨u,hu,hv,hsm,hvoid,hfull⟩:=abs_two a b x y;cases hl:ilarge (a,b,x,y)
 ·have hc:icode (a,b,x,y)=0:=by unfold icode;rw[hl];rfl
  cases hp:prec p
  ·unfold ocode at h;rw[hl,hp] at h;exact absurd (show(2:Int)=0 from h) (by decide)
  ·cases he:(srd (a,b,x,y)).2.2
   ·obtain⟨r,t,hw,hr,ht⟩:=sq_two p he;have eu:=hfull hl he;have c:=op_full (f:=stm) hl hl hp he he
    have hs:sbig (spr 2 p (srd (a,b,x,y)))=false:=by
     unfold ocode at h;rw[hl,hp,he] at h;cases hb:sbig (spr 2 p (srd (a,b,x,y)))
     ·rfl
     ·rw[hb] at h;exact absurd h (by decide)
    have hs':sbig (srnd p (stm (srd (a,b,x,y)) (srd (a,b,x,y))))=false:=by
     rw[c.1] at h';cases hb:sbig (srnd p (stm (srd (a,b,x,y)) (srd (a,b,x,y))))
     ·rfl
     ·rw[hb] at h';exact absurd h' (by decide)
    obtain⟨gr,vr⟩:=hr hs;obtain⟨gt,vt⟩:=ht hs'
    have hS:SF (srd (a,b,x,y)):=by rw[srd_mk he];exact mkS_sf (srd_ord he)
    have e3:srnd p (stm (srd (japi u)) (srd (japi u)))=spr 2 p (srd (a,b,x,y)):=by
     rw[eu];unfold srnd spr;rw[spow_sq hS]
    have ev:(srd (japi u)).2.2=false:=by
     rw[eu];unfold sabs
     split
     ·exact he
     split
     ·rfl
     ·rfl
    have c2:=op_full (f:=stm) hsm hsm hp ev ev;rw[e3,hs] at c2;rw[hs'] at c;refine⟨r,t,u,gr,gt,hu,?_,c.2.trans vt,hv,hc,hw,c2.1,c2.2.trans vr⟩;unfold oval;rw[hl,he,hs];exact vr
   ·have c:=op_void (f:=stm) hl hl hp he;have c2:=op_void (f:=stm) hsm hsm hp (hvoid hl he);refine⟨jnone,jnone,u,.inl rfl,.inl rfl,hu,?_,c.2,hv,hc,rfl,c2.1,c2.2⟩;unfold oval;rw[hl,he];show giv (srd (a,b,x,y))=japi jnone;unfold giv;rw[he];rfl
 ·unfold ocode at h;rw[hl] at h;exact absurd h (by simp)
set_option maxHeartbeats 8000000
set_option maxRecDepth 100000
theorem IntervalSquares_no(s1 p1 k1 c1 q1 l1 d1 sz1 pz1 kz1 cz1 qz1 lz1 dz1 x1 y1 p)(ce cf cg ch:Int)(Vs Vm Vb Vt:Ti)(w:World)(hcs:(ce=1∧cf=1)∨(ce=2∧cf=2)∨(ce=1∧cf=0)∨(ce=0∧cf=1))
  (h0:∀W,Bw w W→Calls Tryz.prog 16 #[.agg #[.bool s1,.slice p1 k1 c1,.slice q1 l1 d1,.bool sz1,.slice pz1 kz1 cz1,.slice qz1 lz1 dz1,.bool x1,.bool y1],.int .i64 2,.int .i64 p] W (GT W ce Vs))(h1:∀W,Bw w W→Calls Tryz.prog 7 #[.agg #[.bool s1,.slice p1 k1 c1,.slice q1 l1 d1,.bool sz1,.slice pz1 kz1 cz1,.slice qz1 lz1 dz1,.bool x1,.bool y1],.agg #[.bool s1,.slice p1 k1 c1,.slice q1 l1 d1,.bool sz1,.slice pz1 kz1 cz1,.slice qz1 lz1 dz1,.bool x1,.bool y1],.int .i64 p] W (GT W cf Vm))(h2:∀W,Bw w W→Calls Tryz.prog 17 #[.agg #[.bool s1,.slice p1 k1 c1,.slice q1 l1 d1,.bool sz1,.slice pz1 kz1 cz1,.slice qz1 lz1 dz1,.bool x1,.bool y1]] W (GT W cg Vb))(h3:∀W s5 p5 k5 c5 q5 l5 d5 sz5 pz5 kz5 cz5 qz5 lz5 dz5 x5 y5,Bw w W→GRep W (.agg #[.bool s5,.slice p5 k5 c5,.slice q5 l5 d5,.bool sz5,.slice pz5 kz5 cz5,.slice qz5 lz5 dz5,.bool x5,.bool y5]) Vb→Calls Tryz.prog 7 #[.agg #[.bool s5,.slice p5 k5 c5,.slice q5 l5 d5,.bool sz5,.slice pz5 kz5 cz5,.slice qz5 lz5 dz5,.bool x5,.bool y5],.agg #[.bool s5,.slice p5 k5 c5,.slice q5 l5 d5,.bool sz5,.slice pz5 kz5 cz5,.slice qz5 lz5 dz5,.bool x5,.bool y5],.int .i64 p] W (GT W ch Vt))(h4:∀W,Bw w W→Calls Tryz.prog 12 #[] W fun e w'=>e=.returned (.bool true)∧Bw W w'):
  Calls Tryz.prog 5 #[.agg #[.bool s1,.slice p1 k1 c1,.slice q1 l1 d1,.bool sz1,.slice pz1 kz1 cz1,.slice qz1 lz1 dz1,.bool x1,.bool y1],.int .i64 p] w fun e w'=>e=.returned (.bool true)∧Bw w w':=by
 have H0:=hid h0;have H1:=hid h1;have H2:=hid h2;have H3:=hid h3;have H4:=hid h4;clear h0 h1 h2 h3 h4
 rcases hcs with ⟨rfl,rfl⟩ | ⟨rfl,rfl⟩ | ⟨rfl,rfl⟩ | ⟨rfl,rfl⟩
 all_goals
  go_enter Tryz.func5,Tryz.ntmps5
  go_wp2_with fail
  generalize hA:World.alloc _ _=W0
  have HV:=hid (pre1_o hA nd8)
  clear hA
  have HB:=hid HV.out.2
  have Ba:=hid HV.out.1
  clear HV
  refine(H0.out _ HB.out).mono ?_
  rintro e w1 ⟨s11,p11,k11,c11,q11,l11,d11,sz11,pz11,kz11,cz11,qz11,lz11,dz11,x11,y11,rfl,hG,hB⟩
  have zw1_a:=(Ba.out.below hB).lt
  go_upto_region 2 with fail
  have HX:=hid (pre1 w1 [.bool s11,.slice p11 k11 c11,.slice q11 l11 d11,.bool sz11,.slice pz11 kz11 cz11,.slice qz11 lz11 dz11,.bool x11,.bool y11] 26 nd8)
  generalize w1.alloc (.cells #[.bool s11,.slice p11 k11 c11,.slice q11 l11 d11,.bool sz11,.slice pz11 kz11 cz11,.slice qz11 lz11 dz11,.bool x11,.bool y11] 26)=W11 at *
  have hC:=hB.trans (HX.out.2.mono hB.size)
  replace Ba:=hid (Ba.out.below hC)
  replace HB:=hid (HB.out.trans ((hC).mono HB.out.size))
  have Bs:=hid HX.out.1
  have Gs_:=hid (GRep.below hG.out HX.out.2)
  clear hG hB hC HX zw1_a
  obtain⟨m0,m1,m2,m3,m4,m5,m6,m7,_⟩:=Ba.out.cells8
  go_wp2_with fail
  refine(H1.out _ HB.out).mono ?_
  rintro e w2 ⟨s12,p12,k12,c12,q12,l12,d12,sz12,pz12,kz12,cz12,qz12,lz12,dz12,x12,y12,rfl,hG,hB⟩
  clear m0 m1 m2 m3 m4 m5 m6 m7
  have zw2_a:=(Ba.out.below hB).lt
  have zw2_s:=(Bs.out.below hB).lt
  go_upto_region 3 with fail
  have HX:=hid (pre1 w2 [.bool s12,.slice p12 k12 c12,.slice q12 l12 d12,.bool sz12,.slice pz12 kz12 cz12,.slice qz12 lz12 dz12,.bool x12,.bool y12] 26 nd8)
  generalize w2.alloc (.cells #[.bool s12,.slice p12 k12 c12,.slice q12 l12 d12,.bool sz12,.slice pz12 kz12 cz12,.slice qz12 lz12 dz12,.bool x12,.bool y12] 26)=W12 at *
  have hC:=hB.trans (HX.out.2.mono hB.size)
  replace Ba:=hid (Ba.out.below hC)
  replace Bs:=hid (Bs.out.below hC)
  replace Gs_:=hid (Gs_.out.below hC)
  replace HB:=hid (HB.out.trans ((hC).mono HB.out.size))
  have Bm:=hid HX.out.1
  have Gm_:=hid (GRep.below hG.out HX.out.2)
  clear hG hB hC HX zw2_a zw2_s
  obtain⟨m0,m1,m2,m3,m4,m5,m6,m7,_⟩:=Ba.out.cells8
  go_wp2_with fail
  refine(H2.out _ HB.out).mono ?_
  rintro e w3 ⟨s13,p13,k13,c13,q13,l13,d13,sz13,pz13,kz13,cz13,qz13,lz13,dz13,x13,y13,rfl,hG,hB⟩
  clear m0 m1 m2 m3 m4 m5 m6 m7
  have zw3_a:=(Ba.out.below hB).lt
  have zw3_s:=(Bs.out.below hB).lt
  have zw3_m:=(Bm.out.below hB).lt
  go_upto_region 4 with fail
  have HX:=hid (pre1 w3 [.bool s13,.slice p13 k13 c13,.slice q13 l13 d13,.bool sz13,.slice pz13 kz13 cz13,.slice qz13 lz13 dz13,.bool x13,.bool y13] 26 nd8)
  generalize w3.alloc (.cells #[.bool s13,.slice p13 k13 c13,.slice q13 l13 d13,.bool sz13,.slice pz13 kz13 cz13,.slice qz13 lz13 dz13,.bool x13,.bool y13] 26)=W13 at *
  have hC:=hB.trans (HX.out.2.mono hB.size)
  replace Ba:=hid (Ba.out.below hC)
  replace Bs:=hid (Bs.out.below hC)
  replace Gs_:=hid (Gs_.out.below hC)
  replace Bm:=hid (Bm.out.below hC)
  replace Gm_:=hid (Gm_.out.below hC)
  replace HB:=hid (HB.out.trans ((hC).mono HB.out.size))
  have Bb:=hid HX.out.1
  have Gb_:=hid (GRep.below hG.out HX.out.2)
  clear hG hB hC HX zw3_a zw3_s zw3_m
  obtain⟨m0,m1,m2,m3,m4,m5,m6,m7,_⟩:=Bb.out.cells8
  go_wp2_with fail
  refine(H3.out _ s13 p13 k13 c13 q13 l13 d13 sz13 pz13 kz13 cz13 qz13 lz13 dz13 x13 y13 HB.out Gb_.out).mono ?_
  rintro e w4 ⟨s14,p14,k14,c14,q14,l14,d14,sz14,pz14,kz14,cz14,qz14,lz14,dz14,x14,y14,rfl,hG,hB⟩
  clear m0 m1 m2 m3 m4 m5 m6 m7
  have zw4_a:=(Ba.out.below hB).lt
  have zw4_s:=(Bs.out.below hB).lt
  have zw4_m:=(Bm.out.below hB).lt
  have zw4_b:=(Bb.out.below hB).lt
  go_upto_region 5 with fail
  have HX:=hid (pre1 w4 [.bool s14,.slice p14 k14 c14,.slice q14 l14 d14,.bool sz14,.slice pz14 kz14 cz14,.slice qz14 lz14 dz14,.bool x14,.bool y14] 26 nd8)
  generalize w4.alloc (.cells #[.bool s14,.slice p14 k14 c14,.slice q14 l14 d14,.bool sz14,.slice pz14 kz14 cz14,.slice qz14 lz14 dz14,.bool x14,.bool y14] 26)=W14 at *
  have hC:=hB.trans (HX.out.2.mono hB.size)
  replace Ba:=hid (Ba.out.below hC)
  replace Bs:=hid (Bs.out.below hC)
  replace Gs_:=hid (Gs_.out.below hC)
  replace Bm:=hid (Bm.out.below hC)
  replace Gm_:=hid (Gm_.out.below hC)
  replace Bb:=hid (Bb.out.below hC)
  replace Gb_:=hid (Gb_.out.below hC)
  replace HB:=hid (HB.out.trans ((hC).mono HB.out.size))
  have Bt:=hid HX.out.1
  have Gt_:=hid (GRep.below hG.out HX.out.2)
  clear hG hB hC HX zw4_a zw4_s zw4_m zw4_b
  go_wp2_with fail
  refine(H4.out _ HB.out).mono ?_
  rintro e w5 ⟨rfl,hB⟩
  replace Ba:=hid (Ba.out.below hB)
  replace Bs:=hid (Bs.out.below hB)
  replace Gs_:=hid (Gs_.out.below hB)
  replace Bm:=hid (Bm.out.below hB)
  replace Gm_:=hid (Gm_.out.below hB)
  replace Bb:=hid (Bb.out.below hB)
  replace Gb_:=hid (Gb_.out.below hB)
  replace Bt:=hid (Bt.out.below hB)
  replace Gt_:=hid (Gt_.out.below hB)
  replace HB:=hid (HB.out.trans ((hB).mono HB.out.size))
  clear hB
  go_wp2_with fail
  go_ret
  exact⟨rfl,HB.out⟩
theorem IntervalSquares_ok(s1 p1 k1 c1 q1 l1 d1 sz1 pz1 kz1 cz1 qz1 lz1 dz1 x1 y1 p)(ce cf cg ch:Int)(Vs Vm Vb Vt:Ti)(w:World)(hcs:ce=0∧cf=0∧cg=0∧ch=0∧Vt=Vs)
  (h0:∀W,Bw w W→Calls Tryz.prog 16 #[.agg #[.bool s1,.slice p1 k1 c1,.slice q1 l1 d1,.bool sz1,.slice pz1 kz1 cz1,.slice qz1 lz1 dz1,.bool x1,.bool y1],.int .i64 2,.int .i64 p] W (GT W ce Vs))(h1:∀W,Bw w W→Calls Tryz.prog 7 #[.agg #[.bool s1,.slice p1 k1 c1,.slice q1 l1 d1,.bool sz1,.slice pz1 kz1 cz1,.slice qz1 lz1 dz1,.bool x1,.bool y1],.agg #[.bool s1,.slice p1 k1 c1,.slice q1 l1 d1,.bool sz1,.slice pz1 kz1 cz1,.slice qz1 lz1 dz1,.bool x1,.bool y1],.int .i64 p] W (GT W cf Vm))(h2:∀W,Bw w W→Calls Tryz.prog 17 #[.agg #[.bool s1,.slice p1 k1 c1,.slice q1 l1 d1,.bool sz1,.slice pz1 kz1 cz1,.slice qz1 lz1 dz1,.bool x1,.bool y1]] W (GT W cg Vb))(h3:∀W s5 p5 k5 c5 q5 l5 d5 sz5 pz5 kz5 cz5 qz5 lz5 dz5 x5 y5,Bw w W→GRep W (.agg #[.bool s5,.slice p5 k5 c5,.slice q5 l5 d5,.bool sz5,.slice pz5 kz5 cz5,.slice qz5 lz5 dz5,.bool x5,.bool y5]) Vb→Calls Tryz.prog 7 #[.agg #[.bool s5,.slice p5 k5 c5,.slice q5 l5 d5,.bool sz5,.slice pz5 kz5 cz5,.slice qz5 lz5 dz5,.bool x5,.bool y5],.agg #[.bool s5,.slice p5 k5 c5,.slice q5 l5 d5,.bool sz5,.slice pz5 kz5 cz5,.slice qz5 lz5 dz5,.bool x5,.bool y5],.int .i64 p] W (GT W ch Vt))(h4:∀W,Bw w W→Calls Tryz.prog 12 #[] W fun e w'=>e=.returned (.bool true)∧Bw W w')(h5:∀W s5 p5 k5 c5 q5 l5 d5 sz5 pz5 kz5 cz5 qz5 lz5 dz5 x5 y5 s6 p6 k6 c6 q6 l6 d6 sz6 pz6 kz6 cz6 qz6 lz6 dz6 x6 y6,Bw w W→GRep W (.agg #[.bool s5,.slice p5 k5 c5,.slice q5 l5 d5,.bool sz5,.slice pz5 kz5 cz5,.slice qz5 lz5 dz5,.bool x5,.bool y5]) Vs→GRep W (.agg #[.bool s6,.slice p6 k6 c6,.slice q6 l6 d6,.bool sz6,.slice pz6 kz6 cz6,.slice qz6 lz6 dz6,.bool x6,.bool y6]) Vm→Calls Tryz.prog 18 #[.agg #[.bool s5,.slice p5 k5 c5,.slice q5 l5 d5,.bool sz5,.slice pz5 kz5 cz5,.slice qz5 lz5 dz5,.bool x5,.bool y5],.agg #[.bool s6,.slice p6 k6 c6,.slice q6 l6 d6,.bool sz6,.slice pz6 kz6 cz6,.slice qz6 lz6 dz6,.bool x6,.bool y6]] W fun e w'=>e=.returned (.bool true)∧Bw W w')(h6:∀W s5 p5 k5 c5 q5 l5 d5 sz5 pz5 kz5 cz5 qz5 lz5 dz5 x5 y5 s6 p6 k6 c6 q6 l6 d6 sz6 pz6 kz6 cz6 qz6 lz6 dz6 x6 y6,GRep W (.agg #[.bool s5,.slice p5 k5 c5,.slice q5 l5 d5,.bool sz5,.slice pz5 kz5 cz5,.slice qz5 lz5 dz5,.bool x5,.bool y5]) Vs→GRep W (.agg #[.bool s6,.slice p6 k6 c6,.slice q6 l6 d6,.bool sz6,.slice pz6 kz6 cz6,.slice qz6 lz6 dz6,.bool x6,.bool y6]) Vs→Calls Tryz.prog 11 #[.agg #[.bool s5,.slice p5 k5 c5,.slice q5 l5 d5,.bool sz5,.slice pz5 kz5 cz5,.slice qz5 lz5 dz5,.bool x5,.bool y5],.int .i64 0,.agg #[.bool s6,.slice p6 k6 c6,.slice q6 l6 d6,.bool sz6,.slice pz6 kz6 cz6,.slice qz6 lz6 dz6,.bool x6,.bool y6],.int .i64 0] W fun e w'=>e=.returned (.bool true)∧Bw W w'):
  Calls Tryz.prog 5 #[.agg #[.bool s1,.slice p1 k1 c1,.slice q1 l1 d1,.bool sz1,.slice pz1 kz1 cz1,.slice qz1 lz1 dz1,.bool x1,.bool y1],.int .i64 p] w fun e w'=>e=.returned (.bool true)∧Bw w w':=by
 have H0:=hid h0;have H1:=hid h1;have H2:=hid h2;have H3:=hid h3;have H4:=hid h4;have H5:=hid h5;have H6:=hid h6;clear h0 h1 h2 h3 h4 h5 h6;obtain⟨rfl,rfl,rfl,rfl,rfl⟩:=hcs;go_enter Tryz.func5,Tryz.ntmps5;go_wp2_with fail;generalize hA:World.alloc _ _=W0;have HV:=hid (pre1_o hA nd8);clear hA;have HB:=hid HV.out.2;have Ba:=hid HV.out.1;clear HV;refine(H0.out _ HB.out).mono ?_;rintro e w1 ⟨s11,p11,k11,c11,q11,l11,d11,sz11,pz11,kz11,cz11,qz11,lz11,dz11,x11,y11,rfl,hG,hB⟩;have zw1_a:=(Ba.out.below hB).lt;go_upto_region 2 with fail;have HX:=hid (pre1 w1 [.bool s11,.slice p11 k11 c11,.slice q11 l11 d11,.bool sz11,.slice pz11 kz11 cz11,.slice qz11 lz11 dz11,.bool x11,.bool y11] 26 nd8);generalize w1.alloc (.cells #[.bool s11,.slice p11 k11 c11,.slice q11 l11 d11,.bool sz11,.slice pz11 kz11 cz11,.slice qz11 lz11 dz11,.bool x11,.bool y11] 26)=W11 at *;have hC:=hB.trans (HX.out.2.mono hB.size);replace Ba:=hid (Ba.out.below hC);replace HB:=hid (HB.out.trans ((hC).mono HB.out.size));have Bs:=hid HX.out.1;have Gs_:=hid (GRep.below hG.out HX.out.2);clear hG hB hC HX zw1_a;obtain⟨m0,m1,m2,m3,m4,m5,m6,m7,_⟩:=Ba.out.cells8;go_wp2_with fail;refine(H1.out _ HB.out).mono ?_;rintro e w2 ⟨s12,p12,k12,c12,q12,l12,d12,sz12,pz12,kz12,cz12,qz12,lz12,dz12,x12,y12,rfl,hG,hB⟩;clear m0 m1 m2 m3 m4 m5 m6 m7;have zw2_a:=(Ba.out.below hB).lt;have zw2_s:=(Bs.out.below hB).lt;go_upto_region 3 with fail;have HX:=hid (pre1 w2 [.bool s12,.slice p12 k12 c12,.slice q12 l12 d12,.bool sz12,.slice pz12 kz12 cz12,.slice qz12 lz12 dz12,.bool x12,.bool y12] 26 nd8);generalize w2.alloc (.cells #[.bool s12,.slice p12 k12 c12,.slice q12 l12 d12,.bool sz12,.slice pz12 kz12 cz12,.slice qz12 lz12 dz12,.bool x12,.bool y12] 26)=W12 at *;have hC:=hB.trans (HX.out.2.mono hB.size);replace Ba:=hid (Ba.out.below hC);replace Bs:=hid (Bs.out.below hC);replace Gs_:=hid (Gs_.out.below hC);replace HB:=hid (HB.out.trans ((hC).mono HB.out.size));have Bm:=hid HX.out.1;have Gm_:=hid (GRep.below hG.out HX.out.2);clear hG hB hC HX zw2_a zw2_s;obtain⟨m0,m1,m2,m3,m4,m5,m6,m7,_⟩:=Ba.out.cells8;go_wp2_with fail;refine(H2.out _ HB.out).mono ?_;rintro e w3 ⟨s13,p13,k13,c13,q13,l13,d13,sz13,pz13,kz13,cz13,qz13,lz13,dz13,x13,y13,rfl,hG,hB⟩;clear m0 m1 m2 m3 m4 m5 m6 m7;have zw3_a:=(Ba.out.below hB).lt;have zw3_s:=(Bs.out.below hB).lt;have zw3_m:=(Bm.out.below hB).lt;go_upto_region 4 with fail;have HX:=hid (pre1 w3 [.bool s13,.slice p13 k13 c13,.slice q13 l13 d13,.bool sz13,.slice pz13 kz13 cz13,.slice qz13 lz13 dz13,.bool x13,.bool y13] 26 nd8);generalize w3.alloc (.cells #[.bool s13,.slice p13 k13 c13,.slice q13 l13 d13,.bool sz13,.slice pz13 kz13 cz13,.slice qz13 lz13 dz13,.bool x13,.bool y13] 26)=W13 at *;have hC:=hB.trans (HX.out.2.mono hB.size);replace Ba:=hid (Ba.out.below hC);replace Bs:=hid (Bs.out.below hC);replace Gs_:=hid (Gs_.out.below hC);replace Bm:=hid (Bm.out.below hC);replace Gm_:=hid (Gm_.out.below hC);replace HB:=hid (HB.out.trans ((hC).mono HB.out.size));have Bb:=hid HX.out.1;have Gb_:=hid (GRep.below hG.out HX.out.2);clear hG hB hC HX zw3_a zw3_s zw3_m;obtain⟨m0,m1,m2,m3,m4,m5,m6,m7,_⟩:=Bb.out.cells8;go_wp2_with fail;refine(H3.out _ s13 p13 k13 c13 q13 l13 d13 sz13 pz13 kz13 cz13 qz13 lz13 dz13 x13 y13 HB.out Gb_.out).mono ?_;rintro e w4 ⟨s14,p14,k14,c14,q14,l14,d14,sz14,pz14,kz14,cz14,qz14,lz14,dz14,x14,y14,rfl,hG,hB⟩;clear m0 m1 m2 m3 m4 m5 m6 m7;have zw4_a:=(Ba.out.below hB).lt;have zw4_s:=(Bs.out.below hB).lt;have zw4_m:=(Bm.out.below hB).lt;have zw4_b:=(Bb.out.below hB).lt;go_upto_region 5 with fail;have HX:=hid (pre1 w4 [.bool s14,.slice p14 k14 c14,.slice q14 l14 d14,.bool sz14,.slice pz14 kz14 cz14,.slice qz14 lz14 dz14,.bool x14,.bool y14] 26 nd8);generalize w4.alloc (.cells #[.bool s14,.slice p14 k14 c14,.slice q14 l14 d14,.bool sz14,.slice pz14 kz14 cz14,.slice qz14 lz14 dz14,.bool x14,.bool y14] 26)=W14 at *;have hC:=hB.trans (HX.out.2.mono hB.size);replace Ba:=hid (Ba.out.below hC);replace Bs:=hid (Bs.out.below hC);replace Gs_:=hid (Gs_.out.below hC);replace Bm:=hid (Bm.out.below hC);replace Gm_:=hid (Gm_.out.below hC);replace Bb:=hid (Bb.out.below hC);replace Gb_:=hid (Gb_.out.below hC);replace HB:=hid (HB.out.trans ((hC).mono HB.out.size));have Bt:=hid HX.out.1;have Gt_:=hid (GRep.below hG.out HX.out.2);clear hG hB hC HX zw4_a zw4_s zw4_m zw4_b;obtain⟨m0,m1,m2,m3,m4,m5,m6,m7,_⟩:=Bs.out.cells8;obtain⟨n0,n1,n2,n3,n4,n5,n6,n7,_⟩:=Bm.out.cells8;go_wp2_with fail;refine(H5.out _ s11 p11 k11 c11 q11 l11 d11 sz11 pz11 kz11 cz11 qz11 lz11 dz11 x11 y11 s12 p12 k12 c12 q12 l12 d12 sz12 pz12 kz12 cz12 qz12 lz12 dz12 x12 y12 HB.out Gs_.out Gm_.out).mono ?_;rintro e w5 ⟨rfl,hB⟩;clear m0 m1 m2 m3 m4 m5 m6 m7 n0 n1 n2 n3 n4 n5 n6 n7;replace Ba:=hid (Ba.out.below hB);replace Bs:=hid (Bs.out.below hB);replace Gs_:=hid (Gs_.out.below hB);replace Bm:=hid (Bm.out.below hB);replace Gm_:=hid (Gm_.out.below hB);replace Bb:=hid (Bb.out.below hB);replace Gb_:=hid (Gb_.out.below hB);replace Bt:=hid (Bt.out.below hB);replace Gt_:=hid (Gt_.out.below hB);replace HB:=hid (HB.out.trans ((hB).mono HB.out.size));clear hB;obtain⟨m0,m1,m2,m3,m4,m5,m6,m7,_⟩:=Bt.out.cells8;obtain⟨n0,n1,n2,n3,n4,n5,n6,n7,_⟩:=Bs.out.cells8;go_wp2_with fail;refine(H6.out _ s14 p14 k14 c14 q14 l14 d14 sz14 pz14 kz14 cz14 qz14 lz14 dz14 x14 y14 s11 p11 k11 c11 q11 l11 d11 sz11 pz11 kz11 cz11 qz11 lz11 dz11 x11 y11 Gt_.out Gs_.out).mono ?_;rintro e w6 ⟨rfl,hB⟩;clear m0 m1 m2 m3 m4 m5 m6 m7 n0 n1 n2 n3 n4 n5 n6 n7;replace Ba:=hid (Ba.out.below hB);replace Bs:=hid (Bs.out.below hB);replace Gs_:=hid (Gs_.out.below hB);replace Bm:=hid (Bm.out.below hB);replace Gm_:=hid (Gm_.out.below hB);replace Bb:=hid (Bb.out.below hB);replace Gb_:=hid (Gb_.out.below hB);replace Bt:=hid (Bt.out.below hB);replace Gt_:=hid (Gt_.out.below hB);replace HB:=hid (HB.out.trans ((hB).mono HB.out.size));clear hB;go_wp2_with fail;refine(H4.out _ HB.out).mono ?_;rintro e w7 ⟨rfl,hB⟩;replace Ba:=hid (Ba.out.below hB);replace Bs:=hid (Bs.out.below hB);replace Gs_:=hid (Gs_.out.below hB);replace Bm:=hid (Bm.out.below hB);replace Gm_:=hid (Gm_.out.below hB);replace Bb:=hid (Bb.out.below hB);replace Gb_:=hid (Gb_.out.below hB);replace Bt:=hid (Bt.out.below hB);replace Gt_:=hid (Gt_.out.below hB);replace HB:=hid (HB.out.trans ((hB).mono HB.out.size));clear hB;go_wp2_with fail
 go_ret
 exact⟨rfl,HB.out⟩
theorem mul_res(s5 p5 k5 c5 q5 l5 d5 sz5 pz5 kz5 cz5 qz5 lz5 dz5 x5 y5){r:Jt}(hr:JGood r)(p)(W:World)(h:GRep W (.agg #[.bool s5,.slice p5 k5 c5,.slice q5 l5 d5,.bool sz5,.slice pz5 kz5 cz5,.slice qz5 lz5 dz5,.bool x5,.bool y5]) (japi r))(ht:TabOk W):Calls Tryz.prog 7 #[.agg #[.bool s5,.slice p5 k5 c5,.slice q5 l5 d5,.bool sz5,.slice pz5 kz5 cz5,.slice qz5 lz5 dz5,.bool x5,.bool y5],.agg #[.bool s5,.slice p5 k5 c5,.slice q5 l5 d5,.bool sz5,.slice pz5 kz5 cz5,.slice qz5 lz5 dz5,.bool x5,.bool y5],.int .i64 p] W (GT W (rcode p stm (japi r) (japi r)) (rval p stm (japi r) (japi r))):=by
 obtain⟨h1,h2,hx,hy⟩:=GRep.parts s5 p5 k5 c5 q5 l5 d5 sz5 pz5 kz5 cz5 qz5 lz5 dz5 x5 y5 h;have k:=iMul_any s5 p5 k5 c5 q5 l5 d5 sz5 pz5 kz5 cz5 qz5 lz5 dz5 x5 y5 s5 p5 k5 c5 q5 l5 d5 sz5 pz5 kz5 cz5 qz5 lz5 dz5 x5 y5 p (japi r).1 (japi r).2.1 (japi r).1 (japi r).2.1 W (hr.ends.1.nrep h1) (hr.ends.2.nrep h2) (hr.ends.1.nrep h1) (hr.ends.2.nrep h2) ht
 have e:((japi r).1,(japi r).2.1,x5,y5)=japi r:=by rw[hx,hy]
 rw[e] at k;exact k
theorem IntervalSquares_iv(s1 p1 k1 c1 q1 l1 d1 sz1 pz1 kz1 cz1 qz1 lz1 dz1 x1 y1 p)(a b:Tq)(w:World)(ha:NRep w (.agg #[.bool s1,.slice p1 k1 c1,.slice q1 l1 d1]) a)(hb:NRep w (.agg #[.bool sz1,.slice pz1 kz1 cz1,.slice qz1 lz1 dz1]) b)(ht:TabOk w):
  Calls Tryz.prog 5 #[.agg #[.bool s1,.slice p1 k1 c1,.slice q1 l1 d1,.bool sz1,.slice pz1 kz1 cz1,.slice qz1 lz1 dz1,.bool x1,.bool y1],.int .i64 p] w fun e w'=>e=.returned (.bool true)∧Bw w w':=by
 have e2:=pow_two a b x1 y1 p
 have h0:=fun (W:World) (hW:Bw w W)=>iPow_any s1 p1 k1 c1 q1 l1 d1 sz1 pz1 kz1 cz1 qz1 lz1 dz1 x1 y1 a b 2 p W (ha.below hW) (hb.below hW) (ht.below hW)
 have h1:=fun (W:World) (hW:Bw w W)=>iMul_any s1 p1 k1 c1 q1 l1 d1 sz1 pz1 kz1 cz1 qz1 lz1 dz1 x1 y1 s1 p1 k1 c1 q1 l1 d1 sz1 pz1 kz1 cz1 qz1 lz1 dz1 x1 y1 p a b a b W (ha.below hW) (hb.below hW) (ha.below hW) (hb.below hW) (ht.below hW)
 have h2:=fun (W:World) (hW:Bw w W)=>iAbs_any s1 p1 k1 c1 q1 l1 d1 sz1 pz1 kz1 cz1 qz1 lz1 dz1 x1 y1 a b W (ha.below hW) (hb.below hW) (ht.below hW)
 have h4:=fun (W:World) (hW:Bw w W)=>awake3_any W (ht.below hW)
 rw[e2.1,e2.2] at h0
 rcases sq_codes a b x1 y1 p with ⟨z1,z2⟩ | hc
 ·obtain⟨r,t,u,gr,gt,gu,v1,v2,v3,z3,hw,z4,v4⟩:=sq_ok z1 z2;rw[v1] at h0;rw[v2] at h1;rw[v3] at h2
  have h3:=fun (W:World) s5 p5 k5 c5 q5 l5 d5 sz5 pz5 kz5 cz5 qz5 lz5 dz5 x5 y5 (hW:Bw w W) (h:GRep W (.agg #[.bool s5,.slice p5 k5 c5,.slice q5 l5 d5,.bool sz5,.slice pz5 kz5 cz5,.slice qz5 lz5 dz5,.bool x5,.bool y5]) (japi u))=>mul_res s5 p5 k5 c5 q5 l5 d5 sz5 pz5 kz5 cz5 qz5 lz5 dz5 x5 y5 gu p W h (ht.below hW)
  exact IntervalSquares_ok s1 p1 k1 c1 q1 l1 d1 sz1 pz1 kz1 cz1 qz1 lz1 dz1 x1 y1 p _ _ _ _ (japi r) (japi t) (japi u) _ w ⟨z1,z2,z3,z4,v4⟩ h0 h1 h2 h3 h4
   (fun W s5 p5 k5 c5 q5 l5 d5 sz5 pz5 kz5 cz5 qz5 lz5 dz5 x5 y5 s6 p6 k6 c6 q6 l6 d6 sz6 pz6 kz6 cz6 qz6 lz6 dz6 x6 y6 hW h h'=>by have k:=lawInside_J s5 p5 k5 c5 q5 l5 d5 sz5 pz5 kz5 cz5 qz5 lz5 dz5 x5 y5 s6 p6 k6 c6 q6 l6 d6 sz6 pz6 kz6 cz6 qz6 lz6 dz6 x6 y6 r t W (JArg.res s5 p5 k5 c5 q5 l5 d5 sz5 pz5 kz5 cz5 qz5 lz5 dz5 x5 y5 gr h) (JArg.res s6 p6 k6 c6 q6 l6 d6 sz6 pz6 kz6 cz6 qz6 lz6 dz6 x6 y6 gt h') (ht.below hW);rw[hw] at k;exact k)
   (fun W s5 p5 k5 c5 q5 l5 d5 sz5 pz5 kz5 cz5 qz5 lz5 dz5 x5 y5 s6 p6 k6 c6 q6 l6 d6 sz6 pz6 kz6 cz6 qz6 lz6 dz6 x6 y6 h h'=>is3_any s5 p5 k5 c5 q5 l5 d5 sz5 pz5 kz5 cz5 qz5 lz5 dz5 x5 y5 s6 p6 k6 c6 q6 l6 d6 sz6 pz6 kz6 cz6 qz6 lz6 dz6 x6 y6 0 _ W (fun _=>⟨r,gr,rfl⟩) (fun h=>absurd rfl h) h h')
 ·obtain⟨u,gu,v3,_⟩:=abs_two a b x1 y1;rw[v3] at h2
  have h3:=fun (W:World) s5 p5 k5 c5 q5 l5 d5 sz5 pz5 kz5 cz5 qz5 lz5 dz5 x5 y5 (hW:Bw w W) (h:GRep W (.agg #[.bool s5,.slice p5 k5 c5,.slice q5 l5 d5,.bool sz5,.slice pz5 kz5 cz5,.slice qz5 lz5 dz5,.bool x5,.bool y5]) (japi u))=>mul_res s5 p5 k5 c5 q5 l5 d5 sz5 pz5 kz5 cz5 qz5 lz5 dz5 x5 y5 gu p W h (ht.below hW)
  exact IntervalSquares_no s1 p1 k1 c1 q1 l1 d1 sz1 pz1 kz1 cz1 qz1 lz1 dz1 x1 y1 p _ _ _ _ _ _ _ _ w hc h0 h1 h2 h3 h4
theorem IntervalSquares_any(v:Value)(i:Ti)(p)(w:World)(ha:IRep w v i)(_hlo:-9223372036854775808≤p)(_hhi:p < 9223372036854775808)(ht:TabOk w):
  Calls Tryz.prog 5 #[v,.int .i64 p] w fun e w'=>e=.returned (.bool true)∧Bw w w':=by
 obtain⟨s1,p1,k1,c1,q1,l1,d1,sz1,pz1,kz1,cz1,qz1,lz1,dz1,x1,y1,rfl,h1,h2,rfl,rfl⟩:=ha;exact IntervalSquares_iv s1 p1 k1 c1 q1 l1 d1 sz1 pz1 kz1 cz1 qz1 lz1 dz1 _ _ p i.1 i.2.1 w h1 h2 ht
end Go.Proofs.YteblinkehldghaaGreatDoor
