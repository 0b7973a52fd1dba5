/- Down and Up are neighbours on the grid: what the comparisons of NumberSteps are. -/
import Derived.Test.YtheojajaefjecaaGreatDoorGrd
import Derived.Test.YtheojajaefjecaaGreatDoorRndJ
import Derived.Test.YtheojajaefjecaaGreatDoorRooI
namespace Go.Proofs.YtheojajaefjecaaGreatDoor
open Go.RowKit Dg
theorem sv_botn(s:Bool)(n:Nat){D P:Nat}(hD:0 < D):sv s (botn (s,n*P,D))*(D:Int)≤sv s n*(P:Int)∧sv s n*(P:Int) < (sv s (botn (s,n*P,D))+1)*(D:Int):=by
 have h1:=Nat.div_add_mod (n*P) D;have h2:=Nat.mod_lt (n*P) hD;have e0:((n*P:Nat):Int)=(n:Int)*(P:Int):=Int.natCast_mul n P;generalize n*P=X at *;generalize hr:X % D=r at *;generalize hq:X / D=q at *
 have e1:(X:Int)=(D:Int)*q+r:=by rw[←h1];push_cast;rfl
 cases s
 ·have hb:botn (false,X,D)=q:=by unfold botn;rw[if_neg (by simp)];exact hq
  rw[hb];show(q:Int)*D≤(n:Int)*P∧(n:Int)*P < ((q:Int)+1)*D;rw[←e0,e1,Int.add_mul,Int.one_mul,Int.mul_comm (q:Int)];omega
 ·by_cases h0:r=0
  ·have hb:botn (true,X,D)=q:=by unfold botn;rw[if_neg (by simp only;rw[hr];simp [h0])];exact hq
   rw[hb];show -(q:Int)*D≤-(n:Int)*P∧-(n:Int)*P < (-(q:Int)+1)*D;rw[Int.neg_mul,Int.neg_mul,←e0,e1,Int.add_mul,Int.one_mul,Int.neg_mul,Int.mul_comm (q:Int)];omega
  ·have hb:botn (true,X,D)=q+1:=by unfold botn;rw[if_pos ⟨rfl,by simp only;rw[hr];exact h0⟩];exact congrArg (·+1) hq
   rw[hb];show -((q+1:Nat):Int)*D≤-(n:Int)*P∧-(n:Int)*P < (-((q+1:Nat):Int)+1)*D
   have e2:((q+1:Nat):Int)=(q:Int)+1:=by omega
   rw[e2,Int.neg_mul,Int.neg_mul,←e0,e1,Int.add_mul,Int.one_mul,show -((q:Int)+1)+1=-(q:Int) by omega,Int.neg_mul,Int.mul_comm (q:Int)];omega
theorem two_ne(p:Nat):((2 ^ p:Nat):Int)≠0:=by have:0 < 2 ^ p:=Nat.pow_pos (by decide);omega
theorem gdn_FQ(t:Tq)(p:Nat):FQ (gdn t p) (sv t.1 (botn (t.1,t.2.1*2 ^ p,t.2.2))) ((2 ^ p:Nat):Int):=
 frac_FQ (Nat.pow_pos (by decide)) (two_ne p) rfl
theorem steps_math{t:Tq}{P p:Nat}(hP:P=2 ^ p)(hD:0 < t.2.2):∃A U:Int,FQ (gdn t p) A (P:Int)∧FQ (gup t p) U (P:Int)∧
  A*(t.2.2:Int)≤sv t.1 t.2.1*(P:Int)∧sv t.1 t.2.1*(P:Int) < (A+1)*(t.2.2:Int)∧(U - 1)*(t.2.2:Int) < sv t.1 t.2.1*(P:Int)∧sv t.1 t.2.1*(P:Int)≤U*(t.2.2:Int):=by
 have h1:=sv_botn t.1 t.2.1 (P:=P) hD;have h2:=sv_botn (fneg t).1 t.2.1 (P:=P) hD
 have e:sv (fneg t).1 t.2.1=-sv t.1 t.2.1:=by
  show sv (!t.1 && decide (t.2.1≠0)) t.2.1=_;rw[sv_sign _ _ _ (fun h=>h)]
  cases t.1<;>simp [sv]
 rw[e] at h2;refine⟨_,_,hP ▸ gdn_FQ t p,hP ▸ fneg_FQ (gdn_FQ (fneg t) p),h1.1,h1.2,?_,?_⟩
 ·have h3:=h2.2;rw[show(fneg t).2.1=t.2.1 from rfl,show(fneg t).2.2=t.2.2 from rfl];generalize sv (fneg t).1 (botn ((fneg t).1,t.2.1*P,t.2.2))=B at *;rw[Int.neg_mul] at h3
  have e3:(-B - 1)*(t.2.2:Int)=-((B+1)*(t.2.2:Int)):=by rw[←Int.neg_mul];congr 1;omega
  rw[e3];omega
 ·have h3:=h2.1;rw[show(fneg t).2.1=t.2.1 from rfl,show(fneg t).2.2=t.2.2 from rfl];generalize sv (fneg t).1 (botn ((fneg t).1,t.2.1*P,t.2.2))=B at *;rw[Int.neg_mul] at h3;rw[Int.neg_mul];omega
def JFr (r:Tj):Prop:=r.2.2.2.2=false∧((r.2.2.1=true∧r.1=(false,0,0))∨(r.2.2.1=false∧IsFr r.1))∧((r.2.2.2.1=true∧r.2.1=(false,0,0))∨(r.2.2.2.1=false∧IsFr r.2.1))∧(r.2.2.1=false→r.2.2.2.1=false→fcmp r.1 r.2.1≤0)
theorem JGood.fr{r:Tj}(h:JGood r)(he:r.2.2.2.2=false):JFr r:=by
 rcases h with rfl | ⟨h1,h2,h3,h4⟩
 ·exact absurd he (by decide)
 ·exact⟨h1,h2.imp id (fun h=>⟨h.1,h.2.1⟩),h3.imp id (fun h=>⟨h.1,h.2.1⟩),h4⟩
theorem grid_le{a b:Tq}(p:Nat)(ha:IsFr a)(hb:IsFr b)(h:fcmp a b≤0):fcmp (gdn a p) (gup b p)≤0:=by
 obtain⟨A,_,hA,_,h1,_,_,_⟩:=steps_math (t:=a) (P:=2 ^ p) (p:=p) rfl ha.pos;obtain⟨_,U,_,hU,_,_,_,h2⟩:=steps_math (t:=b) (P:=2 ^ p) (p:=p) rfl hb.pos
 have hP:(0:Int) < ((2 ^ p:Nat):Int):=by have:0 < 2 ^ p:=Nat.pow_pos (by decide);omega
 rw[fcmp_nonpos] at h;rw[fcmp_Q hA hU hP hP]
 have da:(0:Int) < (a.2.2:Int):=by have:=ha.pos;omega
 have db:(0:Int) < (b.2.2:Int):=by have:=hb.pos;omega
 generalize(a.2.2:Int)=Da at *;generalize(b.2.2:Int)=Db at *;generalize sv a.1 a.2.1=sa at *;generalize sv b.1 b.2.1=sb at *;generalize((2 ^ p:Nat):Int)=P at *;have e1:A*Da*Db≤sa*P*Db:=Int.mul_le_mul_of_nonneg_right h1 (Int.le_of_lt db);have e2:sa*Db*P≤sb*Da*P:=Int.mul_le_mul_of_nonneg_right h (Int.le_of_lt hP);have e3:sb*P*Da≤U*Db*Da:=Int.mul_le_mul_of_nonneg_right h2 (Int.le_of_lt da)
 have e4:A*(Da*Db)≤U*(Da*Db):=by
  calc A*(Da*Db)=A*Da*Db:=(Int.mul_assoc _ _ _).symm
   _≤sa*P*Db:=e1
   _=sa*Db*P:=by rw[Int.mul_assoc,Int.mul_comm P Db,←Int.mul_assoc]
   _≤sb*Da*P:=e2
   _=sb*P*Da:=by rw[Int.mul_assoc,Int.mul_comm Da P,←Int.mul_assoc]
   _≤U*Db*Da:=e3
   _=U*(Da*Db):=by rw[Int.mul_assoc,Int.mul_comm Db Da]
 have e5:A≤U:=Int.le_of_mul_le_mul_right e4 (Int.mul_pos da db);have e6:A*P≤U*P:=Int.mul_le_mul_of_nonneg_right e5 (Int.le_of_lt hP);unfold cmpI
 split
 ·decide
 ·split
  ·omega
  ·decide
theorem QFit.of_small{t:Tq}(h:IsFr t)(hb:big t.2.1 t.2.2=false):QFit t:=by
 unfold big at hb;rw[decide_eq_false_iff_not] at hb;exact⟨h,by omega,by omega⟩
theorem JFr.round{r:Tj}(h:JFr r)(p:Nat)(hb:jbig (jround r p)=false):JGood (jround r p):=by
 obtain⟨he,hl,hh,hc⟩:=h;unfold jround at hb ⊢;rw[he] at hb ⊢;unfold jbig at hb;rw[Bool.or_eq_false_iff] at hb;refine .inr ⟨rfl,?_,?_,?_⟩
 ·rcases hl with ⟨h1,h2⟩ | ⟨h1,h2⟩
  ·exact .inl ⟨h1,by show(if r.2.2.1 then r.1 else gdn r.1 p)=_;rw[h1,h2];rfl⟩
  ·refine .inr ⟨h1,?_⟩;have hb1:=hb.1;show QFit (if r.2.2.1 then r.1 else gdn r.1 p);rw[h1] at hb1 ⊢;exact QFit.of_small (gdn_fr p) hb1
 ·rcases hh with ⟨h1,h2⟩ | ⟨h1,h2⟩
  ·exact .inl ⟨h1,by show(if r.2.2.2.1 then r.2.1 else gup r.2.1 p)=_;rw[h1,h2];rfl⟩
  ·refine .inr ⟨h1,?_⟩;have hb1:=hb.2;show QFit (if r.2.2.2.1 then r.2.1 else gup r.2.1 p);rw[h1] at hb1 ⊢;exact QFit.of_small (gup_fr p) hb1
 ·intro hx hy;show fcmp (if r.2.2.1 then r.1 else gdn r.1 p) (if r.2.2.2.1 then r.2.1 else gup r.2.1 p)≤0;have hx':r.2.2.1=false:=hx;have hy':r.2.2.2.1=false:=hy;rw[hx',hy']
  rcases hl with ⟨h1,_⟩ | ⟨_,h1⟩
  ·rw[hx'] at h1;exact absurd h1 (by decide)
  ·rcases hh with ⟨h2,_⟩ | ⟨_,h2⟩
   ·rw[hy'] at h2;exact absurd h2 (by decide)
   ·exact grid_le p h1 h2 (hc hx' hy')
theorem b16_100k{x:Nat}(h:x < W32 ^ 100000):x < B16 ^ 1000000000:=lt_W_B' h (by omega)
theorem big_zero:big 0 0=false:=by decide+kernel
theorem jbig_none(p:Nat):jbig (jround jnone p)=false:=by
 show(big 0 0 || big 0 0)=false;rw[big_zero];rfl
theorem rnd_ends{A B:Tq}{x y:Bool}{p:Nat}: 
  jbig (jround (if x then (false,0,0) else A,if y then (false,0,0) else B,x,y,false) p)=sbig (sround (if x then (-1,false,0,0) else (0,A),if y then (1,false,0,0) else (0,B),false) p)∧
  japi (jround (if x then (false,0,0) else A,if y then (false,0,0) else B,x,y,false) p)=giv (sround (if x then (-1,false,0,0) else (0,A),if y then (1,false,0,0) else (0,B),false) p):=by
 have ed:Go.Proofs.YtheojajaefjecaaGreatDoor.jrat (gdn A p)=outF (gdn A p):=rat_out (gdn_fr (t:=A) p).pos (gdn_fr (t:=A) p).zs;have eu:Go.Proofs.YtheojajaefjecaaGreatDoor.jrat (gup B p)=outF (gup B p):=rat_out (gup_fr (t:=B) p).pos (gup_fr (t:=B) p).zs
 cases x<;>cases y
 ·refine⟨?_,?_⟩
  ·show(big (gdn A p).2.1 (gdn A p).2.2 || big (gup B p).2.1 (gup B p).2.2)=(decide ((0:Int)=0) && big (gdn A p).2.1 (gdn A p).2.2 || decide ((0:Int)=0) && big (gup B p).2.1 (gup B p).2.2);simp
  ·show(jrat (gdn A p),jrat (gup B p),false,false)=(outF (gdn A p),outF (gup B p),false,false);rw[ed,eu]
 ·refine⟨?_,?_⟩
  ·show(big (gdn A p).2.1 (gdn A p).2.2 || big 0 0)=(decide ((0:Int)=0) && big (gdn A p).2.1 (gdn A p).2.2 || decide ((1:Int)=0) && big 0 0);rw[big_zero];simp
  ·show(jrat (gdn A p),jrat (false,0,0),false,true)=(outF (gdn A p),(false,0,0),false,true);rw[ed,jrat_zero]
 ·refine⟨?_,?_⟩
  ·show(big 0 0 || big (gup B p).2.1 (gup B p).2.2)=(decide ((-1:Int)=0) && big 0 0 || decide ((0:Int)=0) && big (gup B p).2.1 (gup B p).2.2);rw[big_zero];simp
  ·show(jrat (false,0,0),jrat (gup B p),true,false)=((false,0,0),outF (gup B p),true,false);rw[eu,jrat_zero]
 ·refine⟨?_,?_⟩
  ·show(big 0 0 || big 0 0)=(decide ((-1:Int)=0) && big 0 0 || decide ((1:Int)=0) && big 0 0);rw[big_zero];simp
  ·show(jrat (false,0,0),jrat (false,0,0),true,true)=((false,0,0),(false,0,0),true,true);rw[jrat_zero]
theorem oval_err(v:Bool)(f:Ts→Ts)(a b:Tq)(x y:Bool)(h:ocode v f (a,b,x,y)≠0):oval v f (a,b,x,y)=gzero:=by
 unfold ocode at h;unfold oval
 split
 ·rfl
 case isFalse h1=>
  rw[if_neg h1] at h
  split
  case isTrue h2=>
   rw[if_pos h2] at h
   split
   case isTrue h3=>rw[if_pos h3] at h;exact absurd rfl h
   case isFalse h3=>
    rw[if_neg h3] at h
    split
    ·rfl
    case isFalse h4=>rw[if_neg h4] at h;exact absurd rfl h
  ·rfl
theorem kval_err(v:Bool)(k:Ts→Bool)(c:Int)(f:Ts→Ts)(a b:Tq)(x y:Bool)(h:kcode v k c f (a,b,x,y)≠0):kval v k f (a,b,x,y)=gzero:=by
 unfold kcode at h;unfold kval;cases hk:kon v k (a,b,x,y)
 ·rw[hk] at h;exact oval_err v f a b x y h
 ·rfl
end Go.Proofs.YtheojajaefjecaaGreatDoor
