/- The lesser and the greater ones of two sets: the mathematics. -/
import Derived.Test.YteblinkehldghaaGreatDoorAbBQ
import Derived.Test.YteblinkehldghaaGreatDoorAbsI
import Derived.Test.YteblinkehldghaaGreatDoorAbsIQ
import Derived.Test.YteblinkehldghaaGreatDoorCanEQ
import Derived.Test.YteblinkehldghaaGreatDoorHasU
import Derived.Test.YteblinkehldghaaGreatDoorMetIQ
import Derived.Test.YteblinkehldghaaGreatDoorMkIQ
import Derived.Test.YteblinkehldghaaGreatDoorNegI
import Derived.Test.YteblinkehldghaaGreatDoorRndJQ
namespace Go.Proofs.YteblinkehldghaaGreatDoor
open Go.RowKit Dg
theorem QFit.qmax{s t:Tq}(hs:QFit s)(ht:QFit t):QFit (qmax s t):=by unfold Go.Proofs.YteblinkehldghaaGreatDoor.qmax;split<;>assumption
theorem ecmp_fin2(a b:Tq):ecmp (0,a) (0,b)=fcmp a b:=by unfold ecmp;simp
def SimQ (S:Ts) (J:Tj):Prop:=∃A B x y,(x=false→QFit A)∧(y=false→QFit B)∧S=(if x then (-1,false,0,0) else (0,A),if y then (1,false,0,0) else (0,B),false)∧J=(if x then (false,0,0) else A,if y then (false,0,0) else B,x,y,false)
theorem SimQ.of{a b:Tq}{x y:Bool}(h1:large a.2.1 a.2.2=false)(h2:large b.2.1 b.2.2=false)(he:(srd (a,b,x,y)).2.2=false):SimQ (srd (a,b,x,y)) (jof (a,b,x,y)):=by
 refine⟨fr a,fr b,x,y,fun _=>QFit.of h1,fun _=>QFit.of h2,?_,jof_in he⟩;have e:srd (a,b,x,y)=((srd (a,b,x,y)).1,(srd (a,b,x,y)).2.1,(srd (a,b,x,y)).2.2):=rfl;rw[e,he];rfl
theorem fcmp_swap_pos(a b:Tq):(0 < fcmp a b)↔(fcmp b a < 0):=by
 unfold fcmp cmpI;generalize sv a.1 a.2.1*(b.2.2:Int)=u;generalize sv b.1 b.2.1*(a.2.2:Int)=v
 by_cases h1:u < v
 ·rw[if_pos h1]
  by_cases h2:v < u
  ·omega
  ·rw[if_neg h2,if_pos h1];omega
 ·rw[if_neg h1]
  by_cases h2:v < u
  ·rw[if_pos h2];omega
  ·rw[if_neg h2,if_neg h1];omega
theorem fle3{a b c:Tq}(ha:QFit a)(hb:QFit b)(hc:QFit c)(h:fcmp a b≤0)(h':fcmp b c≤0):fcmp a c≤0:=fcmp_trans ha.1.pos hb.1.pos hc.1.pos h h'
def jwithin (r t:Tj):Bool:=if r.2.2.2.2 || t.2.2.2.2 then r.2.2.2.2 else (t.2.2.1 || (!r.2.2.1 && decide (fcmp t.1 r.1≤0))) && (t.2.2.2.1 || (!r.2.2.2.1 && decide (fcmp r.2.1 t.2.1≤0)))
def jin2 (a a':Ti):Bool:=if ilarge a || ilarge a' then false else jwithin (jof a) (jof a')
theorem SimQ.inside{S T:Ts}{J K:Tj}(h:SimQ S J)(h':SimQ T K):sinside S T=jwithin J K:=by
 obtain⟨A,B,x,y,hA,hB,rfl,rfl⟩:=h;obtain⟨A',B',x',y',hA',hB',rfl,rfl⟩:=h';unfold sinside jwithin
 cases x<;>cases x'<;>cases y<;>cases y'
 all_goals
  simp only[if_true,if_false,Bool.false_eq_true,ecmp_fin2,Bool.or_false,Bool.false_or,Bool.not_false,Bool.true_and,Bool.not_true,Bool.false_and,Bool.true_or]
  try rfl
theorem inside_empty{a b a' b':Tq}{x y x' y':Bool}(h1:large a.2.1 a.2.2=false)(h2:large b.2.1 b.2.2=false)(h3:large a'.2.1 a'.2.2=false)(h4:large b'.2.1 b'.2.2=false)(he:(srd (a,b,x,y)).2.2=false)(he':(srd (a',b',x',y')).2.2=true):sinside (srd (a,b,x,y)) (srd (a',b',x',y'))=false:=by
 have qa:=QFit.of h1;have qb:=QFit.of h2;have qa':=QFit.of h3;have qb':=QFit.of h4;have e0:decide (0 < ecmp (rdE x (-1) a) (rdE y 1 b))=false:=he;have e1:decide (0 < ecmp (rdE x' (-1) a') (rdE y' 1 b'))=true:=he';rw[decide_eq_false_iff_not] at e0;rw[decide_eq_true_eq] at e1
 have c1:x'=false∧y'=false:=by
  cases x'<;>cases y'
  ·exact⟨rfl,rfl⟩
  ·have:ecmp (rdE false (-1) a') (rdE true 1 b')=-1:=rfl;omega
  ·have:ecmp (rdE true (-1) a') (rdE false 1 b')=-1:=rfl;omega
  ·have:ecmp (rdE true (-1) a') (rdE true 1 b')=-1:=rfl;omega
 obtain⟨rfl,rfl⟩:=c1
 have e2:0 < fcmp (fr a') (fr b'):=by
  have:ecmp (rdE false (-1) a') (rdE false 1 b')=fcmp (fr a') (fr b'):=ecmp_fin2 _ _;omega
 unfold sinside;rw[he,Bool.false_or];rw[Bool.and_eq_false_iff,decide_eq_false_iff_not,decide_eq_false_iff_not];show ¬ecmp (rdE false (-1) a') (rdE x (-1) a)≤0∨¬ecmp (rdE y 1 b) (rdE false 1 b')≤0;cases x
 ·cases y
  ·have k1:ecmp (rdE false (-1) a') (rdE false (-1) a)=fcmp (fr a') (fr a):=ecmp_fin2 _ _;have k2:ecmp (rdE false 1 b) (rdE false 1 b')=fcmp (fr b) (fr b'):=ecmp_fin2 _ _;have k3:ecmp (rdE false (-1) a) (rdE false 1 b)=fcmp (fr a) (fr b):=ecmp_fin2 _ _;rw[k1,k2];rw[k3] at e0;apply Decidable.byContradiction;intro hn;rw[not_or,Decidable.not_not,Decidable.not_not] at hn;have:=fle3 qa' qa qb' hn.1 (fle3 qa qb qb' (by omega) hn.2);omega
  ·right
   have:ecmp (rdE true 1 b) (rdE false 1 b')=1:=rfl;omega
 ·left
  have:ecmp (rdE false (-1) a') (rdE true (-1) a)=1:=rfl;omega
theorem i2_inside(a b a' b':Tq)(x y x' y':Bool):i2val (a,b,x,y) (a',b',x',y')=jin2 (a,b,x,y) (a',b',x',y'):=by
 unfold i2val jin2;cases h:(ilarge (a,b,x,y) || ilarge (a',b',x',y'))
 ·rw[Bool.or_eq_false_iff] at h;have hl1:(large a.2.1 a.2.2 || large b.2.1 b.2.2)=false:=h.1;have hl2:(large a'.2.1 a'.2.2 || large b'.2.1 b'.2.2)=false:=h.2;rw[Bool.or_eq_false_iff] at hl1 hl2;show sinside (srd (a,b,x,y)) (srd (a',b',x',y'))=jwithin (jof (a,b,x,y)) (jof (a',b',x',y'));cases he:(srd (a,b,x,y)).2.2
  ·cases he':(srd (a',b',x',y')).2.2
   ·exact(SimQ.of hl1.1 hl1.2 he).inside (SimQ.of hl2.1 hl2.2 he')
   ·rw[inside_empty hl1.1 hl1.2 hl2.1 hl2.2 he he',jof_out he',jof_in he];rfl
  ·rw[jof_out he];unfold sinside;rw[he];rfl
 ·rfl
theorem sv_absL(s:Bool)(n:Nat):(sv s n).natAbs=n:=by
 unfold sv;cases s<;>simp
theorem isFr_lowestL{t:Tq}(h:IsFr t):Nat.gcd t.2.1 t.2.2=1∧0 < t.2.2∧(t.2.1=0→t.1=false):=by
 obtain⟨s,n,d,hd,rfl⟩:=h;exact⟨frac_gcd hd,frac_pos hd,frac_zero_sign hd⟩
theorem fr_same{x y:Tq}(hx:IsFr x)(hy:IsFr y)(h:fcmp x y=0):x=y:=by
 obtain⟨gx,px,zx⟩:=isFr_lowestL hx;obtain⟨gy,py,zy⟩:=isFr_lowestL hy
 have he:sv x.1 x.2.1*(y.2.2:Int)=sv y.1 y.2.1*(x.2.2:Int):=by
  unfold fcmp cmpI at h
  split at h
  ·exact absurd h (by decide)
  ·split at h
   ·exact absurd h (by decide)
   ·omega
 have hn:x.2.1*y.2.2=y.2.1*x.2.2:=by
  have:=congrArg Int.natAbs he
  rwa [Int.natAbs_mul,Int.natAbs_mul,sv_absL,sv_absL,Int.natAbs_natCast,Int.natAbs_natCast] at this
 have d1:x.2.2 ∣ y.2.2:=(Nat.Coprime.symm gx).dvd_of_dvd_mul_left ⟨y.2.1,by rw[hn,Nat.mul_comm]⟩;have d2:y.2.2 ∣ x.2.2:=(Nat.Coprime.symm gy).dvd_of_dvd_mul_left ⟨x.2.1,by rw[←hn,Nat.mul_comm]⟩;have hd:x.2.2=y.2.2:=Nat.dvd_antisymm d1 d2;rw[hd] at hn he;have hnn:x.2.1=y.2.1:=Nat.eq_of_mul_eq_mul_right py hn
 have hs:x.1=y.1:=by
  have he2:sv x.1 x.2.1=sv y.1 y.2.1:=Int.eq_of_mul_eq_mul_right (by omega) he;rw[hnn] at he2
  rcases Nat.eq_zero_or_pos y.2.1 with h0 | h0
  ·rw[zx (hnn.trans h0),zy h0]
  ·unfold sv at he2
   cases h1:x.1<;>cases h2:y.1<;>simp [h1,h2] at he2 ⊢<;>omega
 obtain⟨a,b,c⟩:=x;obtain⟨a',b',c'⟩:=y;simp only at hs hnn hd;rw[hs,hnn,hd]
def PQ (D M:Nat) (q:Tq):Prop:=QFit q∧∃c,D=q.2.2*c∧0 < c∧-(M:Int) < sv q.1 q.2.1*c∧sv q.1 q.2.1*c < (M:Int)
def kq (D:Nat) (q:Tq):Int:=sv q.1 q.2.1*(D / q.2.2:Nat)
theorem PQ.key{D M:Nat}{q:Tq}(h:PQ D M q):∃c,D=q.2.2*c∧0 < c∧kq D q=sv q.1 q.2.1*c∧-(M:Int) < kq D q∧kq D q < (M:Int):=by
 obtain⟨hq,c,hc,h0,h1,h2⟩:=h;have hd:0 < q.2.2:=hq.1.pos
 have e:D / q.2.2=c:=by rw[hc];exact Nat.mul_div_cancel_left c hd
 have ek:kq D q=sv q.1 q.2.1*c:=by unfold kq;rw[e]
 exact⟨c,hc,h0,ek,by rw[ek];exact h1,by rw[ek];exact h2⟩
theorem PQ.le{D M:Nat}{p q:Tq}(hp:PQ D M p)(hq:PQ D M q):fcmp p q≤0↔kq D p≤kq D q:=by
 obtain⟨c,hc,h0,ek,_⟩:=hp.key;obtain⟨d,hd,g0,el,_⟩:=hq.key;rw[fcmp_nonpos,ek,el]
 have hD:(p.2.2:Int)*c=(q.2.2:Int)*d:=by rw[←Int.natCast_mul,←Int.natCast_mul,←hc,←hd]
 have pp:(0:Int) < p.2.2:=by have:=hp.1.1.pos;omega
 have pq:(0:Int) < q.2.2:=by have:=hq.1.1.pos;omega
 have pc:(0:Int) < c:=by omega
 have pd:(0:Int) < d:=by omega
 generalize sv p.1 p.2.1=s at *;generalize sv q.1 q.2.1=t at *;generalize(p.2.2:Int)=P at *;generalize(q.2.2:Int)=Q at *;generalize(c:Int)=C at *;generalize(d:Int)=E at *
 -- s*Q≤t*P↔s*C≤t*E,as P*C=Q*E
 constructor
 ·intro h;have h2:s*Q*C≤t*P*C:=Int.mul_le_mul_of_nonneg_right h (Int.le_of_lt pc)
  have e1:s*Q*C=s*C*Q:=by rw[Int.mul_assoc,Int.mul_comm Q C,←Int.mul_assoc]
  have e2:t*P*C=t*E*Q:=by rw[Int.mul_assoc,hD,Int.mul_comm Q E,←Int.mul_assoc]
  rw[e1,e2] at h2;exact Int.le_of_mul_le_mul_right h2 pq
 ·intro h;have h2:s*C*Q≤t*E*Q:=Int.mul_le_mul_of_nonneg_right h (Int.le_of_lt pq)
  have e1:s*C*Q=s*Q*C:=by rw[Int.mul_assoc,Int.mul_comm C Q,←Int.mul_assoc]
  have e2:t*E*Q=t*P*C:=by rw[Int.mul_assoc,Int.mul_comm E Q,←hD,←Int.mul_assoc]
  rw[e1,e2] at h2;exact Int.le_of_mul_le_mul_right h2 pc
theorem PQ.eq{D M:Nat}{p q:Tq}(hp:PQ D M p)(hq:PQ D M q)(h:kq D p=kq D q):p=q:=by
 have h1:=(hp.le hq).2 (by omega);have h2:=(hq.le hp).2 (by omega)
 have h3:fcmp p q=0:=by
  have:=fcmp_swap_pos q p;omega
 exact fr_same hp.1.1 hq.1.1 h3
def kl (D M:Nat) (r:Tj):Int:=if r.2.2.1 then -(M:Int) else kq D r.1
def ku (D M:Nat) (r:Tj):Int:=if r.2.2.2.1 then (M:Int) else kq D r.2.1
def PJ (D M:Nat) (r:Tj):Prop:=∃A B x y,(x=false→PQ D M A)∧(y=false→PQ D M B)∧r=(if x then (false,0,0) else A,if y then (false,0,0) else B,x,y,false)
theorem PJ.ext{D M:Nat}{r t:Tj}(h:PJ D M r)(h':PJ D M t)(hl:kl D M r=kl D M t)(hu:ku D M r=ku D M t):r=t:=by
 obtain⟨A,B,x,y,hA,hB,rfl⟩:=h;obtain⟨A',B',x',y',hA',hB',rfl⟩:=h'
 have c1:x=x'∧(if x then (false,0,0) else A)=(if x' then (false,0,0) else A'):=by
  cases x<;>cases x'
  ·exact⟨rfl,(hA rfl).eq (hA' rfl) hl⟩
  ·have hl':kq D A=-(M:Int):=hl;have:=(hA rfl).key;obtain⟨_,_,_,_,_,_⟩:=this;omega
  ·have hl':-(M:Int)=kq D A':=hl;have:=(hA' rfl).key;obtain⟨_,_,_,_,_,_⟩:=this;omega
  ·exact⟨rfl,rfl⟩
 have c2:y=y'∧(if y then (false,0,0) else B)=(if y' then (false,0,0) else B'):=by
  cases y<;>cases y'
  ·exact⟨rfl,(hB rfl).eq (hB' rfl) hu⟩
  ·have hl':kq D B=(M:Int):=hu;have:=(hB rfl).key;obtain⟨_,_,_,_,_,_⟩:=this;omega
  ·have hl':(M:Int)=kq D B':=hu;have:=(hB' rfl).key;obtain⟨_,_,_,_,_,_⟩:=this;omega
  ·exact⟨rfl,rfl⟩
 rw[c1.2,c2.2,c1.1,c2.1]
theorem PJ.some{D M:Nat}{r:Tj}(h:PJ D M r):r.2.2.2.2=false:=by
 obtain⟨A,B,x,y,_,_,rfl⟩:=h;rfl
theorem scale:∀l:List (Tq),(∀q,q ∈ l→QFit q)→∃D M,0 < D∧0 < M∧∀q,q ∈ l→PQ D M q:=by
 intro l
 induction l with
 | nil=>intro _;exact⟨1,1,Nat.one_pos,Nat.one_pos,fun q h=>absurd h (List.not_mem_nil)⟩
 | cons p l ih=>
  intro h;obtain⟨D,M,hD,hM,hl⟩:=ih (fun q hq=>h q (List.mem_cons_of_mem _ hq));have hp:=h p List.mem_cons_self;have pd:0 < p.2.2:=hp.1.pos;refine⟨p.2.2*D,M*p.2.2+p.2.1*D+1,Nat.mul_pos pd hD,Nat.succ_pos _,?_⟩;intro q hq
  rcases List.mem_cons.1 hq with rfl | hq
  ·refine⟨hp,D,rfl,hD,?_⟩;have ha:=sv_absL q.1 q.2.1
   have hb:(sv q.1 q.2.1*(D:Int)).natAbs=q.2.1*D:=by rw[Int.natAbs_mul,ha,Int.natAbs_natCast]
   generalize sv q.1 q.2.1*(D:Int)=z at *;generalize q.2.1*D=n at *;generalize M*q.2.2=m at *;omega
  ·obtain⟨g,c,e,c0,b1,b2⟩:=hl q hq;refine⟨g,c*p.2.2,by rw[e,Nat.mul_comm p.2.2,Nat.mul_assoc],Nat.mul_pos c0 pd,?_⟩
   have e2:sv q.1 q.2.1*((c*p.2.2:Nat):Int)=sv q.1 q.2.1*(c:Int)*(p.2.2:Int):=by rw[Int.natCast_mul,Int.mul_assoc]
   rw[e2];generalize sv q.1 q.2.1*(c:Int)=z at *
   have p1:(0:Int) < p.2.2:=by omega
   have b1':-(M:Int)*p.2.2 < z*p.2.2:=Int.mul_lt_mul_of_pos_right b1 p1;have b2':z*p.2.2 < (M:Int)*p.2.2:=Int.mul_lt_mul_of_pos_right b2 p1
   have e3:((M*p.2.2+p.2.1*D+1:Nat):Int)=(M:Int)*p.2.2+((p.2.1*D:Nat):Int)+1:=by rw[Int.natCast_add,Int.natCast_add,Int.natCast_mul];rfl
   rw[e3];rw[Int.neg_mul] at b1';generalize(M:Int)*(p.2.2:Int)=m at *;generalize z*(p.2.2:Int)=n at *;generalize p.2.1*D=k at *;omega
set_option maxHeartbeats 2000000 in
set_option maxRecDepth 100000 in
theorem lawInside_any(s1 p1 k1 c1 q1 l1 d1 sz1 pz1 kz1 cz1 qz1 lz1 dz1 x1 y1 s2 p2 k2 c2 q2 l2 d2 sz2 pz2 kz2 cz2 qz2 lz2 dz2 x2 y2)(a b a' b':Tq)(w:World)(ha:NRep w (.agg #[.bool s1,.slice p1 k1 c1,.slice q1 l1 d1]) a)(hb:NRep w (.agg #[.bool sz1,.slice pz1 kz1 cz1,.slice qz1 lz1 dz1]) b)(ha':NRep w (.agg #[.bool s2,.slice p2 k2 c2,.slice q2 l2 d2]) a')(hb':NRep w (.agg #[.bool sz2,.slice pz2 kz2 cz2,.slice qz2 lz2 dz2]) b')(ht:TabOk w):
  Calls Tryz.prog 18 #[.agg #[.bool s1,.slice p1 k1 c1,.slice q1 l1 d1,.bool sz1,.slice pz1 kz1 cz1,.slice qz1 lz1 dz1,.bool x1,.bool y1],.agg #[.bool s2,.slice p2 k2 c2,.slice q2 l2 d2,.bool sz2,.slice pz2 kz2 cz2,.slice qz2 lz2 dz2,.bool x2,.bool y2]] w fun e w'=>e=.returned (.bool (jin2 (a,b,x1,y1) (a',b',x2,y2)))∧Bw w w':=by
 have HC:=hid (fun (W:World) (hW:Bw w W)=>iInside_any s1 p1 k1 c1 q1 l1 d1 sz1 pz1 kz1 cz1 qz1 lz1 dz1 x1 y1 s2 p2 k2 c2 q2 l2 d2 sz2 pz2 kz2 cz2 qz2 lz2 dz2 x2 y2 a b a' b' W (ha.below hW) (hb.below hW) (ha'.below hW) (hb'.below hW) (ht.below hW));rw[i2_inside] at HC
 have hz:m2code (a,b,x1,y1) (a',b',x2,y2)=0∨(m2code (a,b,x1,y1) (a',b',x2,y2)=1∧jin2 (a,b,x1,y1) (a',b',x2,y2)=false):=by
  unfold m2code jin2
  cases ilarge (a,b,x1,y1) || ilarge (a',b',x2,y2)
  ·exact .inl rfl
  ·exact .inr ⟨rfl,rfl⟩
 obtain⟨r,hr⟩:∃r,r=jin2 (a,b,x1,y1) (a',b',x2,y2):=⟨_,rfl⟩;obtain⟨c,hc⟩:∃r,r=m2code (a,b,x1,y1) (a',b',x2,y2):=⟨_,rfl⟩;rw[←hr,←hc] at HC hz;rw[←hr];clear ha hb ha' hb' ht hr hc
 rcases hz with hz | ⟨hz,hv⟩
 ·subst hz;cases r
  all_goals
   go_enter Tryz.func18,Tryz.ntmps18
   go_wp2_with fail
   generalize hA:World.alloc _ _=W0
   have HV:=hid (pre2_o hA nd8 nd8)
   clear hA
   refine(HC.out _ HV.out.2.2).mono ?_
   rintro e w1 ⟨rfl,hB1⟩
   have HE:=hid (HV.out.2.2.trans (hB1.mono HV.out.2.2.size))
   clear hB1
   go_wp2_with fail
   go_ret
   exact⟨rfl,HE.out⟩
 ·subst hz hv;go_enter Tryz.func18,Tryz.ntmps18;go_wp2_with fail;generalize hA:World.alloc _ _=W0;have HV:=hid (pre2_o hA nd8 nd8);clear hA;refine(HC.out _ HV.out.2.2).mono ?_;rintro e w1 ⟨rfl,hB1⟩;have HE:=hid (HV.out.2.2.trans (hB1.mono HV.out.2.2.size));clear hB1;go_wp2_with fail
  go_ret
  exact⟨rfl,HE.out⟩
def JArg (w:World) (v:Value) (r:Tj):Prop:=∃s1 p1 k1 c1 q1 l1 d1 sz1 pz1 kz1 cz1 qz1 lz1 dz1 x1 y1,v=.agg #[.bool s1,.slice p1 k1 c1,.slice q1 l1 d1,.bool sz1,.slice pz1 kz1 cz1,.slice qz1 lz1 dz1,.bool x1,.bool y1]∧∃a b,NRep w (.agg #[.bool s1,.slice p1 k1 c1,.slice q1 l1 d1]) a∧NRep w (.agg #[.bool sz1,.slice pz1 kz1 cz1,.slice qz1 lz1 dz1]) b∧large a.2.1 a.2.2=false∧large b.2.1 b.2.2=false∧jof (a,b,x1,y1)=r
theorem JArg.below{w w':World}{v:Value}{r:Tj}(h:JArg w v r)(hb:Bw w w'):JArg w' v r:=by
 obtain⟨s1,p1,k1,c1,q1,l1,d1,sz1,pz1,kz1,cz1,qz1,lz1,dz1,x1,y1,rfl,a,b,h1,h2,h3,h4,h5⟩:=h;exact⟨s1,p1,k1,c1,q1,l1,d1,sz1,pz1,kz1,cz1,qz1,lz1,dz1,x1,y1,rfl,a,b,h1.below hb,h2.below hb,h3,h4,h5⟩
theorem JArg.res{w:World}(s1 p1 k1 c1 q1 l1 d1 sz1 pz1 kz1 cz1 qz1 lz1 dz1 x1 y1){r:Tj}(hr:JGood r)(h:GRep w (.agg #[.bool s1,.slice p1 k1 c1,.slice q1 l1 d1,.bool sz1,.slice pz1 kz1 cz1,.slice qz1 lz1 dz1,.bool x1,.bool y1]) (japi r)):JArg w (.agg #[.bool s1,.slice p1 k1 c1,.slice q1 l1 d1,.bool sz1,.slice pz1 kz1 cz1,.slice qz1 lz1 dz1,.bool x1,.bool y1]) r:=by
 obtain⟨h1,h2,hx,hy⟩:=GRep.parts s1 p1 k1 c1 q1 l1 d1 sz1 pz1 kz1 cz1 qz1 lz1 dz1 x1 y1 h;refine⟨s1,p1,k1,c1,q1,l1,d1,sz1,pz1,kz1,cz1,qz1,lz1,dz1,x1,y1,rfl,(japi r).1,(japi r).2.1,hr.ends.1.nrep h1,hr.ends.2.nrep h2,hr.ends.1.1,hr.ends.2.1,?_⟩;rw[hx,hy,show((japi r).1,(japi r).2.1,(japi r).2.2.1,(japi r).2.2.2)=japi r from rfl,hr.back]
theorem small2{a b a' b':Tq}{x y x' y':Bool}(h1:large a.2.1 a.2.2=false)(h2:large b.2.1 b.2.2=false)(h3:large a'.2.1 a'.2.2=false)(h4:large b'.2.1 b'.2.2=false):(ilarge (a,b,x,y) || ilarge (a',b',x',y'))=false:=by
 show((large a.2.1 a.2.2 || large b.2.1 b.2.2) || (large a'.2.1 a'.2.2 || large b'.2.1 b'.2.2))=false;rw[h1,h2,h3,h4];rfl
theorem lawInside_J(s1 p1 k1 c1 q1 l1 d1 sz1 pz1 kz1 cz1 qz1 lz1 dz1 x1 y1 s2 p2 k2 c2 q2 l2 d2 sz2 pz2 kz2 cz2 qz2 lz2 dz2 x2 y2)(r t:Tj)(w:World)(h:JArg w (.agg #[.bool s1,.slice p1 k1 c1,.slice q1 l1 d1,.bool sz1,.slice pz1 kz1 cz1,.slice qz1 lz1 dz1,.bool x1,.bool y1]) r)(h':JArg w (.agg #[.bool s2,.slice p2 k2 c2,.slice q2 l2 d2,.bool sz2,.slice pz2 kz2 cz2,.slice qz2 lz2 dz2,.bool x2,.bool y2]) t)(ht:TabOk w):
  Calls Tryz.prog 18 #[.agg #[.bool s1,.slice p1 k1 c1,.slice q1 l1 d1,.bool sz1,.slice pz1 kz1 cz1,.slice qz1 lz1 dz1,.bool x1,.bool y1],.agg #[.bool s2,.slice p2 k2 c2,.slice q2 l2 d2,.bool sz2,.slice pz2 kz2 cz2,.slice qz2 lz2 dz2,.bool x2,.bool y2]] w fun e w'=>e=.returned (.bool (jwithin r t))∧Bw w w':=by
 obtain⟨s3,p3,k3,c3,q3,l3,d3,sz3,pz3,kz3,cz3,qz3,lz3,dz3,x3,y3,hv,a,b,h1,h2,h3,h4,rfl⟩:=h;obtain⟨s4,p4,k4,c4,q4,l4,d4,sz4,pz4,kz4,cz4,qz4,lz4,dz4,x4,y4,hv',a',b',g1,g2,g3,g4,rfl⟩:=h';rw[hv,hv'];have hc:=lawInside_any s3 p3 k3 c3 q3 l3 d3 sz3 pz3 kz3 cz3 qz3 lz3 dz3 x3 y3 s4 p4 k4 c4 q4 l4 d4 sz4 pz4 kz4 cz4 qz4 lz4 dz4 x4 y4 a b a' b' w h1 h2 g1 g2 ht
 have e2:jin2 (a,b,x3,y3) (a',b',x4,y4)=jwithin (jof (a,b,x3,y3)) (jof (a',b',x4,y4)):=by unfold jin2;rw[small2 h3 h4 g3 g4];rfl
 rw[e2] at hc;exact hc
end Go.Proofs.YteblinkehldghaaGreatDoor
