/- Down and Up are neighbours on the grid: what the comparisons of NumberSteps are. -/
import Derived.Test.YteblinkehldghaaGreatDoorGrd
import Derived.Test.YteblinkehldghaaGreatDoorRndJ
import Derived.Test.YteblinkehldghaaGreatDoorBthI
import Derived.Test.YteblinkehldghaaGreatDoorNegI
import Derived.Test.YteblinkehldghaaGreatDoorTwoJ
import Derived.Test.YteblinkehldghaaGreatDoorAbsI
namespace Go.Proofs.YteblinkehldghaaGreatDoor
open Go.RowKit Dg
open And renaming intro→Ai
theorem sv_botn(s:Bool)(n:Nat){D P:Nat}(hD:0 < D):sv s (botn (s,n*P,D))*(D:Int)≤sv s n*(P:Int)∧sv s n*(P:Int) < (sv s (botn (s,n*P,D))+1)*(D:Int):=by
 have h1:=Nat.div_add_mod (n*P) D;have h2:=Nat.mod_lt (n*P) hD;have e0:((n*P:Nat):Int)=(n:Int)*(P:Int):=Int.natCast_mul n P;generalize n*P=X at *;generalize hr:X % D=r at *;generalize hq:X / D=q at *
 have e1:(X:Int)=(D:Int)*q+r:=by rw[←h1];push_cast;rfl
 cases s
 ·have hb:botn (false,X,D)=q:=by unfold botn;rw[if_neg (by simp)];exact hq
  rw[hb];show(q:Int)*D≤(n:Int)*P∧(n:Int)*P < ((q:Int)+1)*D;rw[←e0,e1,Int.add_mul,Int.one_mul,Int.mul_comm (q:Int)];omega
 ·by_cases h0:r=0
  ·have hb:botn (true,X,D)=q:=by unfold botn;rw[if_neg (by simp only;rw[hr];simp [h0])];exact hq
   rw[hb];show -(q:Int)*D≤-(n:Int)*P∧-(n:Int)*P < (-(q:Int)+1)*D;rw[Int.neg_mul,Int.neg_mul,←e0,e1,Int.add_mul,Int.one_mul,Int.neg_mul,Int.mul_comm (q:Int)];omega
  ·have hb:botn (true,X,D)=q+1:=by unfold botn;rw[if_pos ⟨rfl,by simp only;rw[hr];exact h0⟩];exact congrArg (·+1) hq
   rw[hb];show -((q+1:Nat):Int)*D≤-(n:Int)*P∧-(n:Int)*P < (-((q+1:Nat):Int)+1)*D
   have e2:((q+1:Nat):Int)=(q:Int)+1:=by omega
   rw[e2,Int.neg_mul,Int.neg_mul,←e0,e1,Int.add_mul,Int.one_mul,show -((q:Int)+1)+1=-(q:Int) by omega,Int.neg_mul,Int.mul_comm (q:Int)];omega
theorem two_ne(p:Nat):((2 ^ p:Nat):Int)≠0:=by have:0 < 2 ^ p:=Nat.pow_pos (by decide);omega
theorem gdn_FQ(t:Tq)(p:Nat):FQ (gdn t p) (sv t.1 (botn (t.1,t.2.1*2 ^ p,t.2.2))) ((2 ^ p:Nat):Int):=
 frac_FQ (Nat.pow_pos (by decide)) (two_ne p) rfl
theorem steps_math{t:Tq}{P p:Nat}(hP:P=2 ^ p)(hD:0 < t.2.2):∃A U:Int,FQ (gdn t p) A (P:Int)∧FQ (gup t p) U (P:Int)∧
  A*(t.2.2:Int)≤sv t.1 t.2.1*(P:Int)∧sv t.1 t.2.1*(P:Int) < (A+1)*(t.2.2:Int)∧(U - 1)*(t.2.2:Int) < sv t.1 t.2.1*(P:Int)∧sv t.1 t.2.1*(P:Int)≤U*(t.2.2:Int):=by
 have h1:=sv_botn t.1 t.2.1 (P:=P) hD;have h2:=sv_botn (fneg t).1 t.2.1 (P:=P) hD
 have e:sv (fneg t).1 t.2.1=-sv t.1 t.2.1:=by
  show sv (!t.1 && decide (t.2.1≠0)) t.2.1=_;rw[sv_sign _ _ _ (fun h=>h)]
  cases t.1<;>simp [sv]
 rw[e] at h2;refine⟨_,_,hP ▸ gdn_FQ t p,hP ▸ fneg_FQ (gdn_FQ (fneg t) p),h1.1,h1.2,?_,?_⟩
 ·have h3:=h2.2;rw[show(fneg t).2.1=t.2.1 from rfl,show(fneg t).2.2=t.2.2 from rfl];generalize sv (fneg t).1 (botn ((fneg t).1,t.2.1*P,t.2.2))=B at *;rw[Int.neg_mul] at h3
  have e3:(-B - 1)*(t.2.2:Int)=-((B+1)*(t.2.2:Int)):=by rw[←Int.neg_mul];congr 1;omega
  rw[e3];omega
 ·have h3:=h2.1;rw[show(fneg t).2.1=t.2.1 from rfl,show(fneg t).2.2=t.2.2 from rfl];generalize sv (fneg t).1 (botn ((fneg t).1,t.2.1*P,t.2.2))=B at *;rw[Int.neg_mul] at h3;rw[Int.neg_mul];omega
def JFr (r:Tj):Prop:=r.2.2.2.2=false∧((r.2.2.1=true∧r.1=(false,0,0))∨(r.2.2.1=false∧IsFr r.1))∧((r.2.2.2.1=true∧r.2.1=(false,0,0))∨(r.2.2.2.1=false∧IsFr r.2.1))∧(r.2.2.1=false→r.2.2.2.1=false→fcmp r.1 r.2.1≤0)
theorem JGood.fr{r:Tj}(h:JGood r)(he:r.2.2.2.2=false):JFr r:=by
 rcases h with rfl | ⟨h1,h2,h3,h4⟩
 ·exact absurd he (by decide)
 ·exact⟨h1,h2.imp id (fun h=>⟨h.1,h.2.1⟩),h3.imp id (fun h=>⟨h.1,h.2.1⟩),h4⟩
theorem grid_le{a b:Tq}(p:Nat)(ha:IsFr a)(hb:IsFr b)(h:fcmp a b≤0):fcmp (gdn a p) (gup b p)≤0:=by
 obtain⟨A,_,hA,_,h1,_,_,_⟩:=steps_math (t:=a) (P:=2 ^ p) (p:=p) rfl ha.pos;obtain⟨_,U,_,hU,_,_,_,h2⟩:=steps_math (t:=b) (P:=2 ^ p) (p:=p) rfl hb.pos
 have hP:(0:Int) < ((2 ^ p:Nat):Int):=by have:0 < 2 ^ p:=Nat.pow_pos (by decide);omega
 rw[fcmp_nonpos] at h;rw[fcmp_Q hA hU hP hP]
 have da:(0:Int) < (a.2.2:Int):=by have:=ha.pos;omega
 have db:(0:Int) < (b.2.2:Int):=by have:=hb.pos;omega
 generalize(a.2.2:Int)=Da at *;generalize(b.2.2:Int)=Db at *;generalize sv a.1 a.2.1=sa at *;generalize sv b.1 b.2.1=sb at *;generalize((2 ^ p:Nat):Int)=P at *;have e1:A*Da*Db≤sa*P*Db:=Int.mul_le_mul_of_nonneg_right h1 (Int.le_of_lt db);have e2:sa*Db*P≤sb*Da*P:=Int.mul_le_mul_of_nonneg_right h (Int.le_of_lt hP);have e3:sb*P*Da≤U*Db*Da:=Int.mul_le_mul_of_nonneg_right h2 (Int.le_of_lt da)
 have e4:A*(Da*Db)≤U*(Da*Db):=by
  calc A*(Da*Db)=A*Da*Db:=(Int.mul_assoc _ _ _).symm
   _≤sa*P*Db:=e1
   _=sa*Db*P:=by rw[Int.mul_assoc,Int.mul_comm P Db,←Int.mul_assoc]
   _≤sb*Da*P:=e2
   _=sb*P*Da:=by rw[Int.mul_assoc,Int.mul_comm Da P,←Int.mul_assoc]
   _≤U*Db*Da:=e3
   _=U*(Da*Db):=by rw[Int.mul_assoc,Int.mul_comm Db Da]
 have e5:A≤U:=Int.le_of_mul_le_mul_right e4 (Int.mul_pos da db);have e6:A*P≤U*P:=Int.mul_le_mul_of_nonneg_right e5 (Int.le_of_lt hP);unfold cmpI
 split
 ·decide
 ·split
  ·omega
  ·decide
theorem QFit.of_small{t:Tq}(h:IsFr t)(hb:big t.2.1 t.2.2=false):QFit t:=by
 unfold big at hb;rw[decide_eq_false_iff_not] at hb;exact⟨h,by omega,by omega⟩
theorem JFr.round{r:Tj}(h:JFr r)(p:Nat)(hb:jbig (jround r p)=false):JGood (jround r p):=by
 obtain⟨he,hl,hh,hc⟩:=h;unfold jround at hb ⊢;rw[he] at hb ⊢;unfold jbig at hb;rw[Bool.or_eq_false_iff] at hb;refine .inr ⟨rfl,?_,?_,?_⟩
 ·rcases hl with ⟨h1,h2⟩ | ⟨h1,h2⟩
  ·exact .inl ⟨h1,by show(if r.2.2.1 then r.1 else gdn r.1 p)=_;rw[h1,h2];rfl⟩
  ·refine .inr ⟨h1,?_⟩;have hb1:=hb.1;show QFit (if r.2.2.1 then r.1 else gdn r.1 p);rw[h1] at hb1 ⊢;exact QFit.of_small (gdn_fr p) hb1
 ·rcases hh with ⟨h1,h2⟩ | ⟨h1,h2⟩
  ·exact .inl ⟨h1,by show(if r.2.2.2.1 then r.2.1 else gup r.2.1 p)=_;rw[h1,h2];rfl⟩
  ·refine .inr ⟨h1,?_⟩;have hb1:=hb.2;show QFit (if r.2.2.2.1 then r.2.1 else gup r.2.1 p);rw[h1] at hb1 ⊢;exact QFit.of_small (gup_fr p) hb1
 ·intro hx hy;show fcmp (if r.2.2.1 then r.1 else gdn r.1 p) (if r.2.2.2.1 then r.2.1 else gup r.2.1 p)≤0;have hx':r.2.2.1=false:=hx;have hy':r.2.2.2.1=false:=hy;rw[hx',hy']
  rcases hl with ⟨h1,_⟩ | ⟨_,h1⟩
  ·rw[hx'] at h1;exact absurd h1 (by decide)
  ·rcases hh with ⟨h2,_⟩ | ⟨_,h2⟩
   ·rw[hy'] at h2;exact absurd h2 (by decide)
   ·exact grid_le p h1 h2 (hc hx' hy')
theorem gup_100a{t:Tq}{p A:Nat}(hn:t.2.1 < W32 ^ A)(hA:A≤1000)(hp:p≤128):(gup t p).2.1 < W32 ^ 100000∧(gup t p).2.2 < W32 ^ 100000:=gdn_100a (t:=fneg t) hn hA hp
theorem b16_100k{x:Nat}(h:x < W32 ^ 100000):x < B16 ^ 1000000000:=lt_W_B' h (by omega)
theorem big_zero:big 0 0=false:=by decide+kernel
theorem jbig_none(p:Nat):jbig (jround jnone p)=false:=by
 show(big 0 0 || big 0 0)=false;rw[big_zero];rfl
theorem rnd_ends{A B:Tq}{x y:Bool}{p:Nat}: 
  jbig (jround (if x then (false,0,0) else A,if y then (false,0,0) else B,x,y,false) p)=sbig (sround (if x then (-1,false,0,0) else (0,A),if y then (1,false,0,0) else (0,B),false) p)∧
  japi (jround (if x then (false,0,0) else A,if y then (false,0,0) else B,x,y,false) p)=giv (sround (if x then (-1,false,0,0) else (0,A),if y then (1,false,0,0) else (0,B),false) p):=by
 have ed:Go.Proofs.YteblinkehldghaaGreatDoor.jrat (gdn A p)=outF (gdn A p):=rat_out (gdn_fr (t:=A) p).pos (gdn_fr (t:=A) p).zs;have eu:Go.Proofs.YteblinkehldghaaGreatDoor.jrat (gup B p)=outF (gup B p):=rat_out (gup_fr (t:=B) p).pos (gup_fr (t:=B) p).zs
 cases x<;>cases y
 ·refine⟨?_,?_⟩
  ·show(big (gdn A p).2.1 (gdn A p).2.2 || big (gup B p).2.1 (gup B p).2.2)=(decide ((0:Int)=0) && big (gdn A p).2.1 (gdn A p).2.2 || decide ((0:Int)=0) && big (gup B p).2.1 (gup B p).2.2);simp
  ·show(jrat (gdn A p),jrat (gup B p),false,false)=(outF (gdn A p),outF (gup B p),false,false);rw[ed,eu]
 ·refine⟨?_,?_⟩
  ·show(big (gdn A p).2.1 (gdn A p).2.2 || big 0 0)=(decide ((0:Int)=0) && big (gdn A p).2.1 (gdn A p).2.2 || decide ((1:Int)=0) && big 0 0);rw[big_zero];simp
  ·show(jrat (gdn A p),jrat (false,0,0),false,true)=(outF (gdn A p),(false,0,0),false,true);rw[ed,jrat_zero]
 ·refine⟨?_,?_⟩
  ·show(big 0 0 || big (gup B p).2.1 (gup B p).2.2)=(decide ((-1:Int)=0) && big 0 0 || decide ((0:Int)=0) && big (gup B p).2.1 (gup B p).2.2);rw[big_zero];simp
  ·show(jrat (false,0,0),jrat (gup B p),true,false)=((false,0,0),outF (gup B p),true,false);rw[eu,jrat_zero]
 ·refine⟨?_,?_⟩
  ·show(big 0 0 || big 0 0)=(decide ((-1:Int)=0) && big 0 0 || decide ((1:Int)=0) && big 0 0);rw[big_zero];simp
  ·show(jrat (false,0,0),jrat (false,0,0),true,true)=((false,0,0),(false,0,0),true,true);rw[jrat_zero]
set_option maxHeartbeats 4000000
set_option maxRecDepth 100000
theorem faddI_le(a b:Tq):(fadd a b).2.1≤a.2.1*b.2.2+b.2.1*a.2.2∧(fadd a b).2.2≤a.2.2*b.2.2:=by
 by_cases h:a.1=b.1
 ·have e:fadd a b=_:=if_pos h;rw[e];exact⟨Nat.div_le_self _ _,Nat.div_le_self _ _⟩
 ·by_cases h2:a.2.1*b.2.2 < b.2.1*a.2.2
  ·have e:fadd a b=_:=(if_neg h).trans (if_pos h2);rw[e];exact⟨Nat.le_trans (Nat.div_le_self _ _) (Nat.le_trans (Nat.sub_le _ _) (Nat.le_add_left _ _)),Nat.div_le_self _ _⟩
  ·have e:fadd a b=_:=(if_neg h).trans (if_neg h2);rw[e];exact⟨Nat.le_trans (Nat.div_le_self _ _) (Nat.le_trans (Nat.sub_le _ _) (Nat.le_add_right _ _)),Nat.div_le_self _ _⟩
theorem faddI_b{a b:Tq}(h1:a.2.1 < W32 ^ 64)(h2:a.2.2 < W32 ^ 64)(h3:b.2.1 < W32 ^ 64)(h4:b.2.2 < W32 ^ 64):(fadd a b).2.1 < W32 ^ 130∧(fadd a b).2.2 < W32 ^ 130:=
 ⟨Nat.lt_of_le_of_lt (faddI_le a b).1 (lt_add (lt_mul (c:=128) h1 h4 (by omega)) (lt_mul (c:=128) h3 h2 (by omega)) (by omega)),Nat.lt_of_le_of_lt (faddI_le a b).2 (lt_mul h2 h4 (by omega))⟩
theorem EOk.plus{x y:Int×Tq}(hx:EOk 64 x)(hy:EOk 64 y):EOk 1000 (eplus x y):=by
 unfold eplus
 split
 ·exact hx.le (by omega)
 ·split
  ·exact hy.le (by omega)
  case isFalse h1 h2=>
   have h1':x.1=0:=Decidable.not_not.1 h1;have h2':y.1=0:=Decidable.not_not.1 h2;have hb:=faddI_b hx.bn hx.bd hy.bn hy.bd;have h3:EOk 130 (0,fadd x.2 y.2):=⟨fun _=>IsFr.add (hx.fin h1').pos (hy.fin h2').pos,fun h=>absurd rfl h,hb.1,hb.2⟩;exact h3.le (by omega)
theorem enter_splus(args:Array Value)(w:World):(callFunc 38 args).run Tryz.prog w=.ok (.enter 38 args) w:=call_enter Tryz.func38 (by kernel_rfl) rfl args w
theorem iAdd_ret{W:World}{B:Nat}{a0 a1 a2 a3 a4 a5 a6 a7 ev:Value}{tm:Array Value}{R:Ending→World→Prop}(h2:tm[6]?.getD undef=.pointer (some ⟨B,0,none⟩))(h3:tm[7]?.getD undef=ev)(hV:Box W B #[a0,a1,a2,a3,a4,a5,a6,a7])(hR:R (.returned (.tuple #[.agg #[a0,a1,a2,a3,a4,a5,a6,a7],ev])) W):
  bodyPost Tryz.prog Tryz.f15 R .ret {tmps:=tm,defers:=[]} W:=by
 obtain⟨g0,g1,g2,g3,g4,g5,g6,g7,_⟩:=hV.cells8;exact bodyPost_ret (v:=.tuple #[.agg #[a0,a1,a2,a3,a4,a5,a6,a7],ev]) (by simp [results,Tryz.results15,go_sem,h2,h3,g0,g1,g2,g3,g4,g5,g6,g7]) rfl hR
def rcode (p:Int) (f:Ts→Ts→Ts):=b2code (prec p) (fun x y=>srnd p (f x y))
def rval (p:Int) (f:Ts→Ts→Ts):=b2val (prec p) (fun x y=>srnd p (f x y))
theorem rounded_gen(s1 p1 k1 c1 q1 l1 d1 sz1 pz1 kz1 cz1 qz1 lz1 dz1 x1 y1 s2 p2 k2 c2 q2 l2 d2 sz2 pz2 kz2 cz2 qz2 lz2 dz2 x2 y2 p)(g:FuncId)(cap:Array Value)(f:Ts→Ts→Ts)(a b a' b':Tq)(w:World)(ha:NRep w (.agg #[.bool s1,.slice p1 k1 c1,.slice q1 l1 d1]) a)(hb:NRep w (.agg #[.bool sz1,.slice pz1 kz1 cz1,.slice qz1 lz1 dz1]) b)(ha':NRep w (.agg #[.bool s2,.slice p2 k2 c2,.slice q2 l2 d2]) a')(hb':NRep w (.agg #[.bool sz2,.slice pz2 kz2 cz2,.slice qz2 lz2 dz2]) b')(ht:TabOk w)
  (hfn:∀args W,(callFunc g args).run Tryz.prog W=.ok (.enter g args) W)
  (hr:large a.2.1 a.2.2=false→large b.2.1 b.2.2=false→large a'.2.1 a'.2.2=false→large b'.2.1 b'.2.2=false→(srd (a,b,x1,y1)).2.2=false→(srd (a',b',x2,y2)).2.2=false→EOk 1000 (f (srd (a,b,x1,y1)) (srd (a',b',x2,y2))).1∧EOk 1000 (f (srd (a,b,x1,y1)) (srd (a',b',x2,y2))).2.1)
  (hop:large a.2.1 a.2.2=false→large b.2.1 b.2.2=false→large a'.2.1 a'.2.2=false→large b'.2.1 b'.2.2=false→(srd (a,b,x1,y1)).2.2=false→(srd (a',b',x2,y2)).2.2=false→∀W i1 s1 p1 k1 c1 q1 l1 d1 j1 sz1 pz1 kz1 cz1 qz1 lz1 dz1 e1 i2 s2 p2 k2 c2 q2 l2 d2 j2 sz2 pz2 kz2 cz2 qz2 lz2 dz2 e2,Bw w W→SRep W (.agg #[.int .i64 i1,.bool s1,.slice p1 k1 c1,.slice q1 l1 d1,.int .i64 j1,.bool sz1,.slice pz1 kz1 cz1,.slice qz1 lz1 dz1,.bool e1]) (srd (a,b,x1,y1))→SRep W (.agg #[.int .i64 i2,.bool s2,.slice p2 k2 c2,.slice q2 l2 d2,.int .i64 j2,.bool sz2,.slice pz2 kz2 cz2,.slice qz2 lz2 dz2,.bool e2]) (srd (a',b',x2,y2))→Calls Tryz.prog g (#[.agg #[.int .i64 i1,.bool s1,.slice p1 k1 c1,.slice q1 l1 d1,.int .i64 j1,.bool sz1,.slice pz1 kz1 cz1,.slice qz1 lz1 dz1,.bool e1],.agg #[.int .i64 i2,.bool s2,.slice p2 k2 c2,.slice q2 l2 d2,.int .i64 j2,.bool sz2,.slice pz2 kz2 cz2,.slice qz2 lz2 dz2,.bool e2]] ++ cap) W fun e w'=>∃i3 s3 p3 k3 c3 q3 l3 d3 j3 sz3 pz3 kz3 cz3 qz3 lz3 dz3 e3,e=.returned (.agg #[.int .i64 i3,.bool s3,.slice p3 k3 c3,.slice q3 l3 d3,.int .i64 j3,.bool sz3,.slice pz3 kz3 cz3,.slice qz3 lz3 dz3,.bool e3])∧Hid (SRep w' (.agg #[.int .i64 i3,.bool s3,.slice p3 k3 c3,.slice q3 l3 d3,.int .i64 j3,.bool sz3,.slice pz3 kz3 cz3,.slice qz3 lz3 dz3,.bool e3]) (f (srd (a,b,x1,y1)) (srd (a',b',x2,y2))))∧Bw W w'):
  Calls Tryz.prog 21 #[.agg #[.bool s1,.slice p1 k1 c1,.slice q1 l1 d1,.bool sz1,.slice pz1 kz1 cz1,.slice qz1 lz1 dz1,.bool x1,.bool y1],.agg #[.bool s2,.slice p2 k2 c2,.slice q2 l2 d2,.bool sz2,.slice pz2 kz2 cz2,.slice qz2 lz2 dz2,.bool x2,.bool y2],.int .i64 p,.func (.func g) #[] cap] w fun e w'=>∃s5 p5 k5 c5 q5 l5 d5 sz5 pz5 kz5 cz5 qz5 lz5 dz5 x5 y5,e=.returned (.tuple #[.agg #[.bool s5,.slice p5 k5 c5,.slice q5 l5 d5,.bool sz5,.slice pz5 kz5 cz5,.slice qz5 lz5 dz5,.bool x5,.bool y5],.int .i64 (rcode p f (a,b,x1,y1) (a',b',x2,y2))])∧Hid (GRep w' (.agg #[.bool s5,.slice p5 k5 c5,.slice q5 l5 d5,.bool sz5,.slice pz5 kz5 cz5,.slice qz5 lz5 dz5,.bool x5,.bool y5]) (rval p f (a,b,x1,y1) (a',b',x2,y2)))∧Bw w w':=by
 unfold rcode rval;have hmf:=makeFunc_run
 have HC:=hid (fun (W:World) (hW:Bw w W) (b3:Box W (w.heap.size+1+1) #[.int .i64 p]) (b4:Box W (w.heap.size+1+1+1) #[.func (.func g) #[] cap])=>
  both_gen s1 p1 k1 c1 q1 l1 d1 sz1 pz1 kz1 cz1 qz1 lz1 dz1 x1 y1 s2 p2 k2 c2 q2 l2 d2 sz2 pz2 kz2 cz2 qz2 lz2 dz2 x2 y2 (prec p) 50 #[.pointer (some ⟨w.heap.size+1+1+1,0,none⟩),.pointer (some ⟨w.heap.size+1+1,0,none⟩)] (fun x y=>srnd p (f x y)) a b a' b' W
   (ha.below hW) (hb.below hW) (ha'.below hW) (hb'.below hW) (ht.below hW) enter_rounded1
   (fun hv h1 h2 h3 h4 h5 h6=>by
    unfold prec at hv;rw[Bool.and_eq_true,decide_eq_true_eq,decide_eq_true_eq] at hv;have hh:=hr h1 h2 h3 h4 h5 h6
    exact⟨⟨hh.1.dn (by omega),hh.2.up (by omega)⟩,rfl⟩)
   (fun hv h1 h2 h3 h4 h5 h6 W' i3 s3 p3 k3 c3 q3 l3 d3 j3 sz3 pz3 kz3 cz3 qz3 lz3 dz3 e3 i4 s4 p4 k4 c4 q4 l4 d4 j4 sz4 pz4 kz4 cz4 qz4 lz4 dz4 e4 hW' hS1 hS2=>by
    unfold prec at hv;rw[Bool.and_eq_true,decide_eq_true_eq,decide_eq_true_eq] at hv;obtain⟨pr,rfl⟩:=Int.eq_ofNat_of_zero_le hv.1
    exact rounded1_ok i3 s3 p3 k3 c3 q3 l3 d3 j3 sz3 pz3 kz3 cz3 qz3 lz3 dz3 e3 i4 s4 p4 k4 c4 q4 l4 d4 j4 sz4 pz4 kz4 cz4 qz4 lz4 dz4 e4 (w.heap.size+1+1+1) (w.heap.size+1+1) g cap pr (srd (a,b,x1,y1)) (srd (a',b',x2,y2)) _ W' (b4.below hW') (b3.below hW') hS1 hS2 (hr h1 h2 h3 h4 h5 h6) (by omega) ((ht.below hW).below hW') hfn
     (fun W2 h7 hS5 hS6=>hop h1 h2 h3 h4 h5 h6 W2 i3 s3 p3 k3 c3 q3 l3 d3 j3 sz3 pz3 kz3 cz3 qz3 lz3 dz3 e3 i4 s4 p4 k4 c4 q4 l4 d4 j4 sz4 pz4 kz4 cz4 qz4 lz4 dz4 e4 (hW.trans ((hW'.trans (h7.mono hW'.size)).mono hW.size)) hS5 hS6)))
 have HPr:=hid (isPrecision_any p);obtain⟨v,hv⟩:∃r,r=prec p:=⟨_,rfl⟩;rw[←hv] at HC HPr ⊢;obtain⟨D,hD⟩:∃D,D=b2val v (fun x y=>srnd p (f x y)) (a,b,x1,y1) (a',b',x2,y2):=⟨_,rfl⟩;obtain⟨c,hc⟩:∃D,D=b2code v (fun x y=>srnd p (f x y)) (a,b,x1,y1) (a',b',x2,y2):=⟨_,rfl⟩;rw[←hD,←hc] at HC ⊢;clear ha hb ha' hb' ht hr hop hfn hD hc hv;obtain⟨pi,hpi⟩:∃pi:Int,pi=p:=⟨_,rfl⟩;rw[←hpi] at HC HPr ⊢;clear hpi;go_enter Tryz.func21,Tryz.ntmps21;go_wp2_with fail;have HV:=hid (pre5 w [.bool s1,.slice p1 k1 c1,.slice q1 l1 d1,.bool sz1,.slice pz1 kz1 cz1,.slice qz1 lz1 dz1,.bool x1,.bool y1] [.bool s2,.slice p2 k2 c2,.slice q2 l2 d2,.bool sz2,.slice pz2 kz2 cz2,.slice qz2 lz2 dz2,.bool x2,.bool y2] [.int .i64 pi] [.func (.func g) #[] cap] [.bool false,.slice none 0 0,.slice none 0 0,.bool false,.slice none 0 0,.slice none 0 0,.bool false,.bool false] 26 26 3 44 26 nd8 nd8 nd1 nd1 nd8);generalize((((w.alloc (.cells #[.bool s1,.slice p1 k1 c1,.slice q1 l1 d1,.bool sz1,.slice pz1 kz1 cz1,.slice qz1 lz1 dz1,.bool x1,.bool y1] 26)).alloc (.cells #[.bool s2,.slice p2 k2 c2,.slice q2 l2 d2,.bool sz2,.slice pz2 kz2 cz2,.slice qz2 lz2 dz2,.bool x2,.bool y2] 26)).alloc (.cells #[.int .i64 pi] 3)).alloc (.cells #[.func (.func g) #[] cap] 44)).alloc (.cells #[.bool false,.slice none 0 0,.slice none 0 0,.bool false,.slice none 0 0,.slice none 0 0,.bool false,.bool false] 26)=W0 at *;have HQ:=hid (QQ.i3 (cs:=[.bool s1,.slice p1 k1 c1,.slice q1 l1 d1,.bool sz1,.slice pz1 kz1 cz1,.slice qz1 lz1 dz1,.bool x1,.bool y1]) (cs':=[.bool s2,.slice p2 k2 c2,.slice q2 l2 d2,.bool sz2,.slice pz2 kz2 cz2,.slice qz2 lz2 dz2,.bool x2,.bool y2]) (c2:=[.int .i64 pi]) HV.out.1 HV.out.2.1 HV.out.2.2.1 HV.out.2.2.2.2.2);have HS:=hid (fun (w':World) (hb:QQ w [(w.heap.size,[.bool s1,.slice p1 k1 c1,.slice q1 l1 d1,.bool sz1,.slice pz1 kz1 cz1,.slice qz1 lz1 dz1,.bool x1,.bool y1]),(w.heap.size+1,[.bool s2,.slice p2 k2 c2,.slice q2 l2 d2,.bool sz2,.slice pz2 kz2 cz2,.slice qz2 lz2 dz2,.bool x2,.bool y2]),(w.heap.size+1+1,[.int .i64 pi])] w')=>hb.s_8_8_1);have HN:Hid (Apart [(w.heap.size,[.bool s1,.slice p1 k1 c1,.slice q1 l1 d1,.bool sz1,.slice pz1 kz1 cz1,.slice qz1 lz1 dz1,.bool x1,.bool y1]),(w.heap.size+1,[.bool s2,.slice p2 k2 c2,.slice q2 l2 d2,.bool sz2,.slice pz2 kz2 cz2,.slice qz2 lz2 dz2,.bool x2,.bool y2]),(w.heap.size+1+1,[.int .i64 pi])] (w.heap.size+1+1+1+1)):=hid (ne3 (by omega) (by omega) (by omega));have HI:Hid (w.heap.size≤w.heap.size+1+1+1+1):=hid (by omega)
 go_region_held3 (fun w'=>w'.cell? ⟨w.heap.size,0,none⟩=some (.bool s1)∧w'.cell? ⟨w.heap.size,1,none⟩=some (.slice p1 k1 c1)∧w'.cell? ⟨w.heap.size,2,none⟩=some (.slice q1 l1 d1)∧w'.cell? ⟨w.heap.size,3,none⟩=some (.bool sz1)∧w'.cell? ⟨w.heap.size,4,none⟩=some (.slice pz1 kz1 cz1)∧w'.cell? ⟨w.heap.size,5,none⟩=some (.slice qz1 lz1 dz1)∧w'.cell? ⟨w.heap.size,6,none⟩=some (.bool x1)∧w'.cell? ⟨w.heap.size,7,none⟩=some (.bool y1)∧w'.cell? ⟨w.heap.size+1,0,none⟩=some (.bool s2)∧w'.cell? ⟨w.heap.size+1,1,none⟩=some (.slice p2 k2 c2)∧w'.cell? ⟨w.heap.size+1,2,none⟩=some (.slice q2 l2 d2)∧w'.cell? ⟨w.heap.size+1,3,none⟩=some (.bool sz2)∧w'.cell? ⟨w.heap.size+1,4,none⟩=some (.slice pz2 kz2 cz2)∧w'.cell? ⟨w.heap.size+1,5,none⟩=some (.slice qz2 lz2 dz2)∧w'.cell? ⟨w.heap.size+1,6,none⟩=some (.bool x2)∧w'.cell? ⟨w.heap.size+1,7,none⟩=some (.bool y2)∧w'.cell? ⟨w.heap.size+1+1,0,none⟩=some (.int .i64 pi)∧Hid (QQ w [(w.heap.size,[.bool s1,.slice p1 k1 c1,.slice q1 l1 d1,.bool sz1,.slice pz1 kz1 cz1,.slice qz1 lz1 dz1,.bool x1,.bool y1]),(w.heap.size+1,[.bool s2,.slice p2 k2 c2,.slice q2 l2 d2,.bool sz2,.slice pz2 kz2 cz2,.slice qz2 lz2 dz2,.bool x2,.bool y2]),(w.heap.size+1+1,[.int .i64 pi])] w'))
  (first | (refine HS.out _ ?_;first | (with_reducible exact HQ.out.drew) | (with_reducible assumption) | (with_reducible refine QQ.st8 ?_ HN.out HI.out;assumption)))
  (first
   | (go_at_call 39;refine(HPr.out _).mono ?_;rintro e wa ⟨rfl,rfl⟩)
   | (go_at_call 49;refine(HC.out _ HQ.out.drew.bel (HV.out.2.2.1.drew) (HV.out.2.2.2.1.drew)).mono ?_;rintro e wb ⟨s5,p5,k5,c5,q5,l5,d5,sz5,pz5,kz5,cz5,qz5,lz5,dz5,x5,y5,rfl,hG,hB2⟩;have hQ2:=HQ.out.drew.call hB2;have hV2:=(HV.out.2.2.2.2.1.drew).below hB2;obtain⟨g0,g1,g2,g3,g4,g5,g6,g7,f0,f1,f2,f3,f4,f5,f6,f7⟩:=hV2.cells8))
 all_goals
  have HE:=hid (Ai hV2 (Ai hG.out hQ2.bel))
  clear hQ2 hV2 hB2 hG
  go_wp2_with fail
  exact rounded_ret rfl rfl (HE.out.1.stores [.bool s5,.slice p5 k5 c5,.slice q5 l5 d5,.bool sz5,.slice pz5 kz5 cz5,.slice qz5 lz5 dz5,.bool x5,.bool y5] rfl nd8) ⟨s5,p5,k5,c5,q5,l5,d5,sz5,pz5,kz5,cz5,qz5,lz5,dz5,x5,y5,rfl,hid (GRep.stores (k:=0) (l:=[.bool s5,.slice p5 k5 c5,.slice q5 l5 d5,.bool sz5,.slice pz5 kz5 cz5,.slice qz5 lz5 dz5,.bool x5,.bool y5]) HE.out.2.1 HE.out.1 nd8),Below.stores (k:=0) (l:=[.bool s5,.slice p5 k5 c5,.slice q5 l5 d5,.bool sz5,.slice pz5 kz5 cz5,.slice qz5 lz5 dz5,.bool x5,.bool y5]) HE.out.2.2 HI.out⟩
theorem iAdd_any(s1 p1 k1 c1 q1 l1 d1 sz1 pz1 kz1 cz1 qz1 lz1 dz1 x1 y1 s2 p2 k2 c2 q2 l2 d2 sz2 pz2 kz2 cz2 qz2 lz2 dz2 x2 y2 p)(a b a' b':Tq)(w:World)(ha:NRep w (.agg #[.bool s1,.slice p1 k1 c1,.slice q1 l1 d1]) a)(hb:NRep w (.agg #[.bool sz1,.slice pz1 kz1 cz1,.slice qz1 lz1 dz1]) b)(ha':NRep w (.agg #[.bool s2,.slice p2 k2 c2,.slice q2 l2 d2]) a')(hb':NRep w (.agg #[.bool sz2,.slice pz2 kz2 cz2,.slice qz2 lz2 dz2]) b')(ht:TabOk w):
  Calls Tryz.prog 15 #[.agg #[.bool s1,.slice p1 k1 c1,.slice q1 l1 d1,.bool sz1,.slice pz1 kz1 cz1,.slice qz1 lz1 dz1,.bool x1,.bool y1],.agg #[.bool s2,.slice p2 k2 c2,.slice q2 l2 d2,.bool sz2,.slice pz2 kz2 cz2,.slice qz2 lz2 dz2,.bool x2,.bool y2],.int .i64 p] w fun e w'=>∃s5 p5 k5 c5 q5 l5 d5 sz5 pz5 kz5 cz5 qz5 lz5 dz5 x5 y5,e=.returned (.tuple #[.agg #[.bool s5,.slice p5 k5 c5,.slice q5 l5 d5,.bool sz5,.slice pz5 kz5 cz5,.slice qz5 lz5 dz5,.bool x5,.bool y5],.int .i64 (rcode p splus (a,b,x1,y1) (a',b',x2,y2))])∧Hid (GRep w' (.agg #[.bool s5,.slice p5 k5 c5,.slice q5 l5 d5,.bool sz5,.slice pz5 kz5 cz5,.slice qz5 lz5 dz5,.bool x5,.bool y5]) (rval p splus (a,b,x1,y1) (a',b',x2,y2)))∧Bw w w':=by
 have HC:=hid (fun (W:World) (hW:Bw w W)=>
  rounded_gen s1 p1 k1 c1 q1 l1 d1 sz1 pz1 kz1 cz1 qz1 lz1 dz1 x1 y1 s2 p2 k2 c2 q2 l2 d2 sz2 pz2 kz2 cz2 qz2 lz2 dz2 x2 y2 p 38 #[] splus a b a' b' W (ha.below hW) (hb.below hW) (ha'.below hW) (hb'.below hW) (ht.below hW) enter_splus
   (fun h1 h2 h3 h4 _ _=>⟨(rdE_ok (.inr rfl) h1).plus (rdE_ok (.inr rfl) h3),(rdE_ok (.inl rfl) h2).plus (rdE_ok (.inl rfl) h4)⟩)
   (fun h1 h2 h3 h4 _ _ W' i3 s3 p3 k3 c3 q3 l3 d3 j3 sz3 pz3 kz3 cz3 qz3 lz3 dz3 e3 i4 s4 p4 k4 c4 q4 l4 d4 j4 sz4 pz4 kz4 cz4 qz4 lz4 dz4 e4 hW' hS1 hS2=>splus_any i3 s3 p3 k3 c3 q3 l3 d3 j3 sz3 pz3 kz3 cz3 qz3 lz3 dz3 e3 i4 s4 p4 k4 c4 q4 l4 d4 j4 sz4 pz4 kz4 cz4 qz4 lz4 dz4 e4 (srd (a,b,x1,y1)) (srd (a',b',x2,y2)) W' hS1 hS2
    ⟨(rdE_ok (.inr rfl) h1).le (by omega),(rdE_ok (.inl rfl) h2).le (by omega)⟩ ⟨(rdE_ok (.inr rfl) h3).le (by omega),(rdE_ok (.inl rfl) h4).le (by omega)⟩ ((ht.below hW).below hW')))
 obtain⟨D,hD⟩:∃D,D=rval p splus (a,b,x1,y1) (a',b',x2,y2):=⟨_,rfl⟩;obtain⟨c,hc⟩:∃D,D=rcode p splus (a,b,x1,y1) (a',b',x2,y2):=⟨_,rfl⟩;rw[←hD,←hc] at HC ⊢;clear ha hb ha' hb' ht hD hc;obtain⟨pi,hpi⟩:∃pi:Int,pi=p:=⟨_,rfl⟩;rw[←hpi] at HC ⊢;clear hpi;go_enter Tryz.func15,Tryz.ntmps15;go_wp2_with fail;generalize hA:World.alloc _ _=W0;have HV:=hid (pre3_o hA nd8 nd8 nd8);clear hA;refine(HC.out _ HV.out.2.2.2).mono ?_;rintro e w1 ⟨s5,p5,k5,c5,q5,l5,d5,sz5,pz5,kz5,cz5,qz5,lz5,dz5,x5,y5,rfl,hG,hB1⟩;have HE:=hid (Ai (HV.out.2.2.1.below hB1) (HV.out.2.2.2.trans (hB1.mono HV.out.2.2.2.size)));clear hB1;obtain⟨g0,g1,g2,g3,g4,g5,g6,g7,f0,f1,f2,f3,f4,f5,f6,f7⟩:=HE.out.1.cells8;go_wp2_with fail;exact iAdd_ret rfl rfl (HE.out.1.stores [.bool s5,.slice p5 k5 c5,.slice q5 l5 d5,.bool sz5,.slice pz5 kz5 cz5,.slice qz5 lz5 dz5,.bool x5,.bool y5] rfl nd8) ⟨s5,p5,k5,c5,q5,l5,d5,sz5,pz5,kz5,cz5,qz5,lz5,dz5,x5,y5,rfl,hid (GRep.stores (k:=0) (l:=[.bool s5,.slice p5 k5 c5,.slice q5 l5 d5,.bool sz5,.slice pz5 kz5 cz5,.slice qz5 lz5 dz5,.bool x5,.bool y5]) hG.out HE.out.1 nd8),Below.stores (k:=0) (l:=[.bool s5,.slice p5 k5 c5,.slice q5 l5 d5,.bool sz5,.slice pz5 kz5 cz5,.slice qz5 lz5 dz5,.bool x5,.bool y5]) HE.out.2 (by omega)⟩
theorem small_low(n:Nat)(h:n < 10):n < W32 ^ 1000000000:=lt_big (a:=1) (by rw[Nat.pow_one];unfold W32;omega) (by omega)
theorem lt_b16{x:Nat}(h:x < 10):x < B16 ^ 1000000000:=lt_16 (a:=1) (by rw[Nat.pow_one];unfold B16;omega) (by omega)
theorem ratInt(v:Value)(n:Nat)(hn:n < 10)(w:World)(h:QNorm w v (false,n,1)):
  Calls Tryz.prog 19 #[v] w fun e w'=>∃s1 p1 k1 c1 q1 l1 d1,e=.returned (.agg #[.bool s1,.slice p1 k1 c1,.slice q1 l1 d1])∧Hid (FNorm w' (.agg #[.bool s1,.slice p1 k1 c1,.slice q1 l1 d1]) (false,n,0))∧Bw w w':=
 fopen (t:=(false,n,0)) ((rRat_any v false n 1 w h (lt_b16 (by omega)) (lt_b16 (by omega))).mono fun _ _ ⟨v',he,hF,hB⟩=>⟨v',he,hF,hB⟩)
theorem intInt(n:Nat)(hn:n < 10)(hn0:n≠0)(w:World):
  Calls Tryz.prog 20 #[.int .i64 (n:Int)] w fun e w'=>∃v',e=.returned v'∧QNorm w' v' (false,n,1)∧Bw w w':=by
 refine(rInt_any (n:Int) w (by omega) (by omega)).mono ?_;rintro e w' ⟨v',he,hF,hB⟩;refine⟨v',he,?_,hB⟩
 have e1:mkq (decide ((n:Int) < 0)) (n:Int).natAbs 1=(false,n,1):=by
  rw[decide_eq_false (by omega),Int.natAbs_natCast,mkq_one hn0]
 rwa [e1] at hF
theorem rep_one{w:World}{p}{k c n:Nat}(h:Rep W32 w (.slice p k c) n)(h0:0 < n)(h1:n < W32):k=1∧k≤c∧∃b off,p=some ⟨b,off,none⟩∧w.cell? ⟨b,off,none⟩=some (.int .u32 (n:Nat)):=by
 obtain⟨p',k',c',hv,hk,hl,hs⟩:=h;obtain⟨rfl,rfl,rfl⟩:=Value.slice.inj hv;have hk1:k=1:=hl.unique W32_one ⟨by rw[Nat.pow_one];exact h1,fun _=>by rw[Nat.sub_self,Nat.pow_zero];omega⟩;subst hk1;obtain⟨b,off,hp,hc⟩:=hs (by omega);refine⟨rfl,hk,b,off,hp,?_⟩;have h2:=hc 0 (by omega)
 have e:dg W32 n 0=n:=by unfold dg;rw[Nat.pow_zero,Nat.div_one,Nat.mod_eq_of_lt h1]
 rwa [e] at h2
theorem rep_zero{w:World}{p k c}(h:Rep W32 w (.slice p k c) 0):k=0:=by
 obtain⟨p',k',c',hv,hk,hl,hs⟩:=h;obtain⟨rfl,rfl,rfl⟩:=Value.slice.inj hv;exact(hl.zero_iff W32_pos).1 rfl
theorem FNorm.parts{w:World}{s}{vn vd:Value}{t:Tq}(h:FNorm w (.agg #[.bool s,vn,vd]) t):s=t.1∧Rep W32 w vn t.2.1∧Rep W32 w vd t.2.2:=by
 obtain⟨vn',vd',hv,h1,h2⟩:=h;have e:=Value.agg.inj hv;simp at e;obtain⟨rfl,rfl,rfl⟩:=e;exact⟨rfl,h1,h2⟩
theorem nrep_small{w:World}{v:Value}{n:Nat}(h:FNorm w v (false,n,0))(hn:n < 10):NRep w v (false,n,0):=FRep.arep h (small_low n hn) (small_low 0 (by omega))
theorem rc46:rcode 0 splus ((false,1,0),(false,2,0),false,false) ((false,3,0),(false,4,0),false,false)=0:=by decide+kernel
theorem rv46:rval 0 splus ((false,1,0),(false,2,0),false,false) ((false,3,0),(false,4,0),false,false)=((false,4,0),(false,6,0),false,false):=by decide+kernel
theorem awake3_any(w:World)(ht:TabOk w):
  Calls Tryz.prog 12 #[] w fun e w'=>e=.returned (.bool true)∧Bw w w':=by
 have HT:=hid ht;have HI:=hid (fun (n:Nat) (h:n < 10) (h0:n≠0) (W:World)=>intInt n h h0 W);clear ht;go_enter Tryz.func12,Tryz.ntmps12;go_wp2_with fail;refine(HI.out 1 (by omega) (by omega) w).mono ?_;rintro e w1 ⟨v1,rfl,hq1,hb1⟩;go_wp2_with fail;refine(ratInt v1 1 (by omega) w1 hq1).mono ?_;rintro e w2 ⟨s1,p1,k1,c1,q1,l1,d1,rfl,hF1,hb2⟩;have HB2:=hid (hb1.trans (hb2.mono hb1.size));clear hb1 hb2 hq1;go_wp2_with fail;refine(HI.out 2 (by omega) (by omega) w2).mono ?_;rintro e w3 ⟨v3,rfl,hq3,hb3⟩;go_wp2_with fail;refine(ratInt v3 2 (by omega) w3 hq3).mono ?_;rintro e w4 ⟨s2,p2,k2,c2,q2,l2,d2,rfl,hF2,hb4⟩;have HB4:=hid (held_any HB2.out (hb3.trans (hb4.mono hb3.size)));have HF1:=hid (hF1.out.below (hb3.trans (hb4.mono hb3.size)));clear hb3 hb4 hq3 hF1;go_wp2_with fail;refine(HI.out 3 (by omega) (by omega) w4).mono ?_;rintro e w5 ⟨v5,rfl,hq5,hb5⟩;go_wp2_with fail;refine(ratInt v5 3 (by omega) w5 hq5).mono ?_;rintro e w6 ⟨s3,p3,k3,c3,q3,l3,d3,rfl,hF3,hb6⟩;have hb56:=hb5.trans (hb6.mono hb5.size);have HB6:=hid (held_any HB4.out hb56);have HG1:=hid (HF1.out.below hb56);have HG2:=hid (hF2.out.below hb56);clear hb5 hb6 hq5 HF1 hF2 hb56;go_wp2_with fail;refine(HI.out 4 (by omega) (by omega) w6).mono ?_;rintro e w7 ⟨v7,rfl,hq7,hb7⟩;go_wp2_with fail;refine(ratInt v7 4 (by omega) w7 hq7).mono ?_;rintro e w8 ⟨s4,p4,k4,c4,q4,l4,d4,rfl,hF4,hb8⟩;have hb78:=hb7.trans (hb8.mono hb7.size);have HB8:=hid (held_any HB6.out hb78);have HH:=hid (Ai (HG1.out.below hb78) (Ai (HG2.out.below hb78) (Ai (hF3.out.below hb78) hF4.out)));clear hb7 hb8 hq7 HG1 HG2 hF3 hF4 hb78
 have HA:=hid (fun (W:World) (hW:Bw w8 W)=>iAdd_any s1 p1 k1 c1 q1 l1 d1 s2 p2 k2 c2 q2 l2 d2 false false s3 p3 k3 c3 q3 l3 d3 s4 p4 k4 c4 q4 l4 d4 false false 0 (false,1,0) (false,2,0) (false,3,0) (false,4,0) W
  (NRep.below (nrep_small HH.out.1 (by omega)) hW) (NRep.below (nrep_small HH.out.2.1 (by omega)) hW) (NRep.below (nrep_small HH.out.2.2.1 (by omega)) hW) (NRep.below (nrep_small HH.out.2.2.2 (by omega)) hW) ((HT.out.below HB8.out).below hW))
 obtain⟨D,hD⟩:∃D,D=rval 0 splus ((false,1,0),(false,2,0),false,false) ((false,3,0),(false,4,0),false,false):=⟨_,rfl⟩;rw[rc46,←hD] at HA;rw[rv46] at hD;have HD:=hid hD;clear hD HI HH;go_upto_region 2 with fail;generalize hA:World.alloc _ _=W0;have HV:=hid (pre4_o hA nd3 nd3 nd3 nd3);clear hA;obtain⟨m0,m1,m2,_⟩:=HV.out.1.cells3;obtain⟨n0,n1,n2,_⟩:=HV.out.2.1.cells3;obtain⟨o0,o1,o2,_⟩:=HV.out.2.2.1.cells3;obtain⟨u0,u1,u2,_⟩:=HV.out.2.2.2.1.cells3;go_wp2_with fail;refine(HA.out _ HV.out.2.2.2.2).mono ?_;rintro e w9 ⟨s5,p5,k5,c5,q5,l5,d5,sz5,pz5,kz5,cz5,qz5,lz5,dz5,x5,y5,rfl,hG,hB9⟩;clear m0 m1 m2 n0 n1 n2 o0 o1 o2 u0 u1 u2 HA;have HB9:=hid (HB8.out.trans ((HV.out.2.2.2.2.trans (hB9.mono HV.out.2.2.2.2.size)).mono HB8.out.size));clear hB9;go_upto_region 3 with fail;have HX:=hid (pre1 w9 [.bool s5,.slice p5 k5 c5,.slice q5 l5 d5,.bool sz5,.slice pz5 kz5 cz5,.slice qz5 lz5 dz5,.bool x5,.bool y5] 26 nd8);generalize w9.alloc (.cells #[.bool s5,.slice p5 k5 c5,.slice q5 l5 d5,.bool sz5,.slice pz5 kz5 cz5,.slice qz5 lz5 dz5,.bool x5,.bool y5] 26)=w10 at *;have hP:=GRep.parts _ _ _ _ _ _ _ _ _ _ _ _ _ _ _ _ (hG.out.below HX.out.2);rw[HD.out] at hP;obtain⟨hf1,hf2,hx5,hy5⟩:=hP;have hx5':x5=false:=hx5;have hy5':y5=false:=hy5;subst hx5' hy5';clear hx5 hy5 hG;obtain⟨_,ha,_⟩:=hf1.parts;obtain⟨_,hb,hc⟩:=hf2.parts;have ha':Rep W32 w10 (.slice p5 k5 c5) 4:=ha;have hb':Rep W32 w10 (.slice pz5 kz5 cz5) 6:=hb;have hc':Rep W32 w10 (.slice qz5 lz5 dz5) 0:=hc;clear ha hb hc;obtain⟨rfl,hk1,ba,oa,rfl,hca⟩:=rep_one ha' (by omega) (by decide);obtain⟨rfl,hk2,bb,ob,rfl,hcb⟩:=rep_one hb' (by omega) (by decide);obtain rfl:=rep_zero hc';clear ha' hb' hc' hf1 hf2;obtain⟨m0,m1,m2,m3,m4,m5,m6,m7,_⟩:=HX.out.1.cells8;go_wp2_with fail
 go_ret
 exact⟨rfl,HB9.out.trans (HX.out.2.mono HB9.out.size)⟩
def JW (A:Nat) (r:Tj):Prop:=r=jnone∨(JFr r∧(r.1.2.1 < W32 ^ A∧r.1.2.2 < W32 ^ A)∧(r.2.1.2.1 < W32 ^ A∧r.2.1.2.2 < W32 ^ A))
theorem JGood.wide{r:Tj}(h:JGood r):JW 64 r:=by
 by_cases he:r.2.2.2.2=true
 ·rcases h with h | ⟨h,_⟩
  ·exact .inl h
  ·rw[he] at h;exact absurd h (by decide)
 ·have hf:=h.fr (by simpa using he)
  rcases h with h | ⟨_,hl,hh,_⟩
  ·exact .inl h
  ·refine .inr ⟨hf,?_,?_⟩
   ·rcases hl with ⟨_,hl⟩ | ⟨_,hl⟩
    ·rw[hl];exact⟨Nat.pow_pos W32_pos,Nat.pow_pos W32_pos⟩
    ·exact hl.2
   ·rcases hh with ⟨_,hl⟩ | ⟨_,hl⟩
    ·rw[hl];exact⟨Nat.pow_pos W32_pos,Nat.pow_pos W32_pos⟩
    ·exact hl.2
theorem JW.bd{r:Tj}(h:JW 400 r){p:Nat}(hp:p≤128):JBd (jround r p):=by
 rcases h with rfl | ⟨⟨he,hl,hh,_⟩,h1,h2⟩
 ·exact⟨⟨b16_0,b16_0⟩,b16_0,b16_0⟩
 ·unfold jround;rw[he];refine⟨?_,?_⟩
  ·rcases hl with ⟨g1,g2⟩ | ⟨g1,g2⟩
   ·show(if r.2.2.1 then r.1 else gdn r.1 p).2.1 < _∧(if r.2.2.1 then r.1 else gdn r.1 p).2.2 < _;rw[g1,g2];exact⟨b16_0,b16_0⟩
   ·show(if r.2.2.1 then r.1 else gdn r.1 p).2.1 < _∧(if r.2.2.1 then r.1 else gdn r.1 p).2.2 < _;rw[g1];have:=gdn_100a (A:=400) h1.1 (by omega) hp;exact⟨b16_100k this.1,b16_100k this.2⟩
  ·rcases hh with ⟨g1,g2⟩ | ⟨g1,g2⟩
   ·show(if r.2.2.2.1 then r.2.1 else gup r.2.1 p).2.1 < _∧(if r.2.2.2.1 then r.2.1 else gup r.2.1 p).2.2 < _;rw[g1,g2];exact⟨b16_0,b16_0⟩
   ·show(if r.2.2.2.1 then r.2.1 else gup r.2.1 p).2.1 < _∧(if r.2.2.2.1 then r.2.1 else gup r.2.1 p).2.2 < _;rw[g1];have:=gup_100a (A:=400) h2.1 (by omega) hp;exact⟨b16_100k this.1,b16_100k this.2⟩
def jplus (r t:Tj):Tj:=if r.2.2.2.2 || t.2.2.2.2 then jnone else (if r.2.2.1 || t.2.2.1 then (false,0,0) else fadd r.1 t.1,if r.2.2.2.1 || t.2.2.2.1 then (false,0,0) else fadd r.2.1 t.2.1,r.2.2.1 || t.2.2.1,r.2.2.2.1 || t.2.2.2.1,false)
theorem self_FQ{t:Tq}(h:0 < t.2.2):FQ t (sv t.1 t.2.1) (t.2.2:Int):=⟨by omega,h,rfl⟩
theorem fadd_mono{a b a' b':Tq}(ha:IsFr a)(hb:IsFr b)(ha':IsFr a')(hb':IsFr b')(h:fcmp a a'≤0)(h':fcmp b b'≤0):fcmp (fadd a b) (fadd a' b')≤0:=by
 have p1:(0:Int) < (a.2.2:Int):=by have:=ha.pos;omega
 have p2:(0:Int) < (b.2.2:Int):=by have:=hb.pos;omega
 have p3:(0:Int) < (a'.2.2:Int):=by have:=ha'.pos;omega
 have p4:(0:Int) < (b'.2.2:Int):=by have:=hb'.pos;omega
 rw[fcmp_Q (fadd_FQ (self_FQ ha.pos) (self_FQ hb.pos)) (fadd_FQ (self_FQ ha'.pos) (self_FQ hb'.pos)) (Int.mul_pos p1 p2) (Int.mul_pos p3 p4)];rw[fcmp_nonpos] at h h';generalize(a.2.2:Int)=da at *;generalize(b.2.2:Int)=db at *;generalize(a'.2.2:Int)=ea at *;generalize(b'.2.2:Int)=eb at *;generalize sv a.1 a.2.1=sa at *;generalize sv b.1 b.2.1=sb at *;generalize sv a'.1 a'.2.1=ta at *;generalize sv b'.1 b'.2.1=tb at *;have k1:sa*ea*(db*eb)≤ta*da*(db*eb):=Int.mul_le_mul_of_nonneg_right h (Int.le_of_lt (Int.mul_pos p2 p4));have k2:sb*eb*(da*ea)≤tb*db*(da*ea):=Int.mul_le_mul_of_nonneg_right h' (Int.le_of_lt (Int.mul_pos p1 p3))
 have e1:(sa*db+sb*da)*(ea*eb)=sa*ea*(db*eb)+sb*eb*(da*ea):=by
  simp only[Int.mul_add,Int.mul_comm,Int.mul_left_comm]
 have e2:(ta*eb+tb*ea)*(da*db)=ta*da*(db*eb)+tb*db*(da*ea):=by
  simp only[Int.mul_add,Int.mul_comm,Int.mul_left_comm]
 rw[e1,e2];unfold cmpI
 split
 ·decide
 ·split
  ·omega
  ·decide
theorem JW.plus{A:Nat}(hA:130≤A){r t:Tj}(hr:JGood r)(ht:JGood t):JW A (jplus r t):=by
 unfold jplus;cases hre:r.2.2.2.2
 ·cases hte:t.2.2.2.2
  ·have fr1:=hr.fr hre;have fr2:=ht.fr hte
   rcases hr.wide with w1 | ⟨_,b1,b2⟩
   ·rw[w1] at hre;exact absurd hre (by decide)
   rcases ht.wide with w2 | ⟨_,b3,b4⟩
   ·rw[w2] at hte;exact absurd hte (by decide)
   have q1:(r.2.2.1 || t.2.2.1)=false→IsFr r.1∧IsFr t.1:=by
    intro hx;rw[Bool.or_eq_false_iff] at hx
    rcases fr1.2.1 with ⟨hq,_⟩ | ⟨_,q1⟩
    ·rw[hx.1] at hq;exact absurd hq (by decide)
    rcases fr2.2.1 with ⟨hq,_⟩ | ⟨_,q2⟩
    ·rw[hx.2] at hq;exact absurd hq (by decide)
    exact⟨q1,q2⟩
   have q2:(r.2.2.2.1 || t.2.2.2.1)=false→IsFr r.2.1∧IsFr t.2.1:=by
    intro hx;rw[Bool.or_eq_false_iff] at hx
    rcases fr1.2.2.1 with ⟨hq,_⟩ | ⟨_,q1⟩
    ·rw[hx.1] at hq;exact absurd hq (by decide)
    rcases fr2.2.2.1 with ⟨hq,_⟩ | ⟨_,q2⟩
    ·rw[hx.2] at hq;exact absurd hq (by decide)
    exact⟨q1,q2⟩
   have m1:=faddI_b b1.1 b1.2 b3.1 b3.2;have m2:=faddI_b b2.1 b2.2 b4.1 b4.2;refine .inr ⟨⟨rfl,?_,?_,?_⟩,?_,?_⟩
   ·cases hx:(r.2.2.1 || t.2.2.1)
    ·exact .inr ⟨rfl,IsFr.add (q1 hx).1.pos (q1 hx).2.pos⟩
    ·exact .inl ⟨rfl,rfl⟩
   ·cases hx:(r.2.2.2.1 || t.2.2.2.1)
    ·exact .inr ⟨rfl,IsFr.add (q2 hx).1.pos (q2 hx).2.pos⟩
    ·exact .inl ⟨rfl,rfl⟩
   ·intro hx hy;have hx':(r.2.2.1 || t.2.2.1)=false:=hx;have hy':(r.2.2.2.1 || t.2.2.2.1)=false:=hy;show fcmp (if r.2.2.1 || t.2.2.1 then (false,0,0) else fadd r.1 t.1) (if r.2.2.2.1 || t.2.2.2.1 then (false,0,0) else fadd r.2.1 t.2.1)≤0;rw[hx',hy'];have hx2:=hx';have hy2:=hy';rw[Bool.or_eq_false_iff] at hx2 hy2;exact fadd_mono (q1 hx').1 (q1 hx').2 (q2 hy').1 (q2 hy').2 (fr1.2.2.2 hx2.1 hy2.1) (fr2.2.2.2 hx2.2 hy2.2)
   ·show(if r.2.2.1 || t.2.2.1 then (false,0,0) else fadd r.1 t.1).2.1 < _∧(if r.2.2.1 || t.2.2.1 then (false,0,0) else fadd r.1 t.1).2.2 < _
    split
    ·exact⟨Nat.pow_pos W32_pos,Nat.pow_pos W32_pos⟩
    ·exact⟨lt_pow m1.1 (by omega),lt_pow m1.2 (by omega)⟩
   ·show(if r.2.2.2.1 || t.2.2.2.1 then (false,0,0) else fadd r.2.1 t.2.1).2.1 < _∧(if r.2.2.2.1 || t.2.2.2.1 then (false,0,0) else fadd r.2.1 t.2.1).2.2 < _
    split
    ·exact⟨Nat.pow_pos W32_pos,Nat.pow_pos W32_pos⟩
    ·exact⟨lt_pow m2.1 (by omega),lt_pow m2.2 (by omega)⟩
  ·exact .inl rfl
 ·exact .inl rfl
def Sim (S:Ts) (J:Tj):Prop:=∃A B x y,S=(if x then (-1,false,0,0) else (0,A),if y then (1,false,0,0) else (0,B),false)∧J=(if x then (false,0,0) else A,if y then (false,0,0) else B,x,y,false)
theorem Sim.of{a b:Tq}{x y:Bool}(he:(srd (a,b,x,y)).2.2=false):Sim (srd (a,b,x,y)) (jof (a,b,x,y)):=by
 refine⟨fr a,fr b,x,y,?_,jof_in he⟩;have e:srd (a,b,x,y)=((srd (a,b,x,y)).1,(srd (a,b,x,y)).2.1,(srd (a,b,x,y)).2.2):=rfl;rw[e,he];rfl
theorem Sim.plus{S T:Ts}{J K:Tj}(h:Sim S J)(h':Sim T K):Sim (splus S T) (jplus J K):=by
 obtain⟨A,B,x,y,rfl,rfl⟩:=h;obtain⟨A',B',x',y',rfl,rfl⟩:=h'
 refine⟨fadd A A',fadd B B',x || x',y || y',?_,?_⟩<;>cases x<;>cases y<;>cases x'<;>cases y'<;>rfl
theorem Sim.neg{S:Ts}{J:Tj}(h:Sim S J):Sim (sneg S) (jminus J):=by
 obtain⟨A,B,x,y,rfl,rfl⟩:=h
 refine⟨fneg B,fneg A,y,x,?_,?_⟩<;>cases x<;>cases y<;>rfl
theorem pre2_of{w W0:World}{l1 l2:List Value}{t1 t2:Nat}(h:(w.alloc (.cells l1.toArray t1)).alloc (.cells l2.toArray t2)=W0)(h1:NDs l1)(h2:NDs l2):
  Box W0 w.heap.size l1.toArray∧Box W0 (w.heap.size+1) l2.toArray∧Bw w W0:=by
 subst h;exact pre2 w l1 l2 t1 t2 h1 h2
theorem rop_large{p:Int}{f:Ts→Ts→Ts}{a a':Ti}(h:(ilarge a || ilarge a')=true):rcode p f a a'=1∧rval p f a a'=gzero:=by
 unfold rcode rval b2code b2val;rw[h];exact⟨rfl,rfl⟩
theorem rop_arg{p:Int}{f:Ts→Ts→Ts}{a a':Ti}(h:(ilarge a || ilarge a')=false)(hv:prec p=false):rcode p f a a'=2∧rval p f a a'=gzero:=by
 unfold rcode rval b2code b2val;rw[h,hv];exact⟨rfl,rfl⟩
theorem rop_err(p:Int)(f:Ts→Ts→Ts)(a a':Ti)(h:rcode p f a a'≠0):rval p f a a'=gzero:=by
 unfold rcode b2code at h;unfold rval b2val
 split
 ·rfl
 case isFalse h1=>
  rw[if_neg h1] at h
  split
  case isTrue h2=>
   rw[if_pos h2] at h
   split
   case isTrue h3=>rw[if_pos h3] at h;exact absurd rfl h
   case isFalse h3=>
    rw[if_neg h3] at h
    split
    case isTrue h4=>rw[if_pos h4] at h;exact absurd rfl h
    case isFalse h4=>
     rw[if_neg h4] at h
     split
     ·rfl
     case isFalse h5=>rw[if_neg h5] at h;exact absurd rfl h
  ·rfl
end Go.Proofs.YteblinkehldghaaGreatDoor
