/- Down and Up are neighbours on the grid: what the comparisons of NumberSteps are. -/
import Derived.Test.YteblinkehldghaaGreatDoorCanEQ
import Derived.Test.YteblinkehldghaaGreatDoorGrd
import Derived.Test.YteblinkehldghaaGreatDoorHasU
import Derived.Test.YteblinkehldghaaGreatDoorLatIQ
import Derived.Test.YteblinkehldghaaGreatDoorPowPQ
import Derived.Test.YteblinkehldghaaGreatDoorPwiKQ
import Derived.Test.YteblinkehldghaaGreatDoorRndJQ
namespace Go.Proofs.YteblinkehldghaaGreatDoor
open Go.RowKit Dg
theorem sv_botn(s:Bool)(n:Nat){D P:Nat}(hD:0 < D):sv s (botn (s,n*P,D))*(D:Int)≤sv s n*(P:Int)∧sv s n*(P:Int) < (sv s (botn (s,n*P,D))+1)*(D:Int):=by
 have h1:=Nat.div_add_mod (n*P) D;have h2:=Nat.mod_lt (n*P) hD;have e0:((n*P:Nat):Int)=(n:Int)*(P:Int):=Int.natCast_mul n P;generalize n*P=X at *;generalize hr:X % D=r at *;generalize hq:X / D=q at *
 have e1:(X:Int)=(D:Int)*q+r:=by rw[←h1];push_cast;rfl
 cases s
 ·have hb:botn (false,X,D)=q:=by unfold botn;rw[if_neg (by simp)];exact hq
  rw[hb];show(q:Int)*D≤(n:Int)*P∧(n:Int)*P < ((q:Int)+1)*D;rw[←e0,e1,Int.add_mul,Int.one_mul,Int.mul_comm (q:Int)];omega
 ·by_cases h0:r=0
  ·have hb:botn (true,X,D)=q:=by unfold botn;rw[if_neg (by simp only;rw[hr];simp [h0])];exact hq
   rw[hb];show -(q:Int)*D≤-(n:Int)*P∧-(n:Int)*P < (-(q:Int)+1)*D;rw[Int.neg_mul,Int.neg_mul,←e0,e1,Int.add_mul,Int.one_mul,Int.neg_mul,Int.mul_comm (q:Int)];omega
  ·have hb:botn (true,X,D)=q+1:=by unfold botn;rw[if_pos ⟨rfl,by simp only;rw[hr];exact h0⟩];exact congrArg (·+1) hq
   rw[hb];show -((q+1:Nat):Int)*D≤-(n:Int)*P∧-(n:Int)*P < (-((q+1:Nat):Int)+1)*D
   have e2:((q+1:Nat):Int)=(q:Int)+1:=by omega
   rw[e2,Int.neg_mul,Int.neg_mul,←e0,e1,Int.add_mul,Int.one_mul,show -((q:Int)+1)+1=-(q:Int) by omega,Int.neg_mul,Int.mul_comm (q:Int)];omega
theorem two_ne(p:Nat):((2 ^ p:Nat):Int)≠0:=by have:0 < 2 ^ p:=Nat.pow_pos (by decide);omega
theorem gdn_FQ(t:Tq)(p:Nat):FQ (gdn t p) (sv t.1 (botn (t.1,t.2.1*2 ^ p,t.2.2))) ((2 ^ p:Nat):Int):=
 frac_FQ (Nat.pow_pos (by decide)) (two_ne p) rfl
theorem steps_math{t:Tq}{P p:Nat}(hP:P=2 ^ p)(hD:0 < t.2.2):∃A U:Int,FQ (gdn t p) A (P:Int)∧FQ (gup t p) U (P:Int)∧
  A*(t.2.2:Int)≤sv t.1 t.2.1*(P:Int)∧sv t.1 t.2.1*(P:Int) < (A+1)*(t.2.2:Int)∧(U - 1)*(t.2.2:Int) < sv t.1 t.2.1*(P:Int)∧sv t.1 t.2.1*(P:Int)≤U*(t.2.2:Int):=by
 have h1:=sv_botn t.1 t.2.1 (P:=P) hD;have h2:=sv_botn (fneg t).1 t.2.1 (P:=P) hD
 have e:sv (fneg t).1 t.2.1=-sv t.1 t.2.1:=by
  show sv (!t.1 && decide (t.2.1≠0)) t.2.1=_;rw[sv_sign _ _ _ (fun h=>h)]
  cases t.1<;>simp [sv]
 rw[e] at h2;refine⟨_,_,hP ▸ gdn_FQ t p,hP ▸ fneg_FQ (gdn_FQ (fneg t) p),h1.1,h1.2,?_,?_⟩
 ·have h3:=h2.2;rw[show(fneg t).2.1=t.2.1 from rfl,show(fneg t).2.2=t.2.2 from rfl];generalize sv (fneg t).1 (botn ((fneg t).1,t.2.1*P,t.2.2))=B at *;rw[Int.neg_mul] at h3
  have e3:(-B - 1)*(t.2.2:Int)=-((B+1)*(t.2.2:Int)):=by rw[←Int.neg_mul];congr 1;omega
  rw[e3];omega
 ·have h3:=h2.1;rw[show(fneg t).2.1=t.2.1 from rfl,show(fneg t).2.2=t.2.2 from rfl];generalize sv (fneg t).1 (botn ((fneg t).1,t.2.1*P,t.2.2))=B at *;rw[Int.neg_mul] at h3;rw[Int.neg_mul];omega
def JFr (r:Tj):Prop:=r.2.2.2.2=false∧((r.2.2.1=true∧r.1=(false,0,0))∨(r.2.2.1=false∧IsFr r.1))∧((r.2.2.2.1=true∧r.2.1=(false,0,0))∨(r.2.2.2.1=false∧IsFr r.2.1))∧(r.2.2.1=false→r.2.2.2.1=false→fcmp r.1 r.2.1≤0)
theorem JGood.fr{r:Tj}(h:JGood r)(he:r.2.2.2.2=false):JFr r:=by
 rcases h with rfl | ⟨h1,h2,h3,h4⟩
 ·exact absurd he (by decide)
 ·exact⟨h1,h2.imp id (fun h=>⟨h.1,h.2.1⟩),h3.imp id (fun h=>⟨h.1,h.2.1⟩),h4⟩
theorem grid_le{a b:Tq}(p:Nat)(ha:IsFr a)(hb:IsFr b)(h:fcmp a b≤0):fcmp (gdn a p) (gup b p)≤0:=by
 obtain⟨A,_,hA,_,h1,_,_,_⟩:=steps_math (t:=a) (P:=2 ^ p) (p:=p) rfl ha.pos;obtain⟨_,U,_,hU,_,_,_,h2⟩:=steps_math (t:=b) (P:=2 ^ p) (p:=p) rfl hb.pos
 have hP:(0:Int) < ((2 ^ p:Nat):Int):=by have:0 < 2 ^ p:=Nat.pow_pos (by decide);omega
 rw[fcmp_nonpos] at h;rw[fcmp_Q hA hU hP hP]
 have da:(0:Int) < (a.2.2:Int):=by have:=ha.pos;omega
 have db:(0:Int) < (b.2.2:Int):=by have:=hb.pos;omega
 generalize(a.2.2:Int)=Da at *;generalize(b.2.2:Int)=Db at *;generalize sv a.1 a.2.1=sa at *;generalize sv b.1 b.2.1=sb at *;generalize((2 ^ p:Nat):Int)=P at *;have e1:A*Da*Db≤sa*P*Db:=Int.mul_le_mul_of_nonneg_right h1 (Int.le_of_lt db);have e2:sa*Db*P≤sb*Da*P:=Int.mul_le_mul_of_nonneg_right h (Int.le_of_lt hP);have e3:sb*P*Da≤U*Db*Da:=Int.mul_le_mul_of_nonneg_right h2 (Int.le_of_lt da)
 have e4:A*(Da*Db)≤U*(Da*Db):=by
  calc A*(Da*Db)=A*Da*Db:=(Int.mul_assoc _ _ _).symm
   _≤sa*P*Db:=e1
   _=sa*Db*P:=by rw[Int.mul_assoc,Int.mul_comm P Db,←Int.mul_assoc]
   _≤sb*Da*P:=e2
   _=sb*P*Da:=by rw[Int.mul_assoc,Int.mul_comm Da P,←Int.mul_assoc]
   _≤U*Db*Da:=e3
   _=U*(Da*Db):=by rw[Int.mul_assoc,Int.mul_comm Db Da]
 have e5:A≤U:=Int.le_of_mul_le_mul_right e4 (Int.mul_pos da db);have e6:A*P≤U*P:=Int.mul_le_mul_of_nonneg_right e5 (Int.le_of_lt hP);unfold cmpI
 split
 ·decide
 ·split
  ·omega
  ·decide
theorem QFit.of_small{t:Tq}(h:IsFr t)(hb:big t.2.1 t.2.2=false):QFit t:=by
 unfold big at hb;rw[decide_eq_false_iff_not] at hb;exact⟨h,by omega,by omega⟩
theorem JFr.round{r:Tj}(h:JFr r)(p:Nat)(hb:jbig (jround r p)=false):JGood (jround r p):=by
 obtain⟨he,hl,hh,hc⟩:=h;unfold jround at hb ⊢;rw[he] at hb ⊢;unfold jbig at hb;rw[Bool.or_eq_false_iff] at hb;refine .inr ⟨rfl,?_,?_,?_⟩
 ·rcases hl with ⟨h1,h2⟩ | ⟨h1,h2⟩
  ·exact .inl ⟨h1,by show(if r.2.2.1 then r.1 else gdn r.1 p)=_;rw[h1,h2];rfl⟩
  ·refine .inr ⟨h1,?_⟩;have hb1:=hb.1;show QFit (if r.2.2.1 then r.1 else gdn r.1 p);rw[h1] at hb1 ⊢;exact QFit.of_small (gdn_fr p) hb1
 ·rcases hh with ⟨h1,h2⟩ | ⟨h1,h2⟩
  ·exact .inl ⟨h1,by show(if r.2.2.2.1 then r.2.1 else gup r.2.1 p)=_;rw[h1,h2];rfl⟩
  ·refine .inr ⟨h1,?_⟩;have hb1:=hb.2;show QFit (if r.2.2.2.1 then r.2.1 else gup r.2.1 p);rw[h1] at hb1 ⊢;exact QFit.of_small (gup_fr p) hb1
 ·intro hx hy;show fcmp (if r.2.2.1 then r.1 else gdn r.1 p) (if r.2.2.2.1 then r.2.1 else gup r.2.1 p)≤0;have hx':r.2.2.1=false:=hx;have hy':r.2.2.2.1=false:=hy;rw[hx',hy']
  rcases hl with ⟨h1,_⟩ | ⟨_,h1⟩
  ·rw[hx'] at h1;exact absurd h1 (by decide)
  ·rcases hh with ⟨h2,_⟩ | ⟨_,h2⟩
   ·rw[hy'] at h2;exact absurd h2 (by decide)
   ·exact grid_le p h1 h2 (hc hx' hy')
theorem gup_100a{t:Tq}{p A:Nat}(hn:t.2.1 < W32 ^ A)(hA:A≤1000)(hp:p≤128):(gup t p).2.1 < W32 ^ 100000∧(gup t p).2.2 < W32 ^ 100000:=gdn_100a (t:=fneg t) hn hA hp
theorem b16_100k{x:Nat}(h:x < W32 ^ 100000):x < B16 ^ 1000000000:=lt_W_B' h (by omega)
theorem big_zero:big 0 0=false:=by decide+kernel
theorem rnd_ends{A B:Tq}{x y:Bool}{p:Nat}: 
  jbig (jround (if x then (false,0,0) else A,if y then (false,0,0) else B,x,y,false) p)=sbig (sround (if x then (-1,false,0,0) else (0,A),if y then (1,false,0,0) else (0,B),false) p)∧
  japi (jround (if x then (false,0,0) else A,if y then (false,0,0) else B,x,y,false) p)=giv (sround (if x then (-1,false,0,0) else (0,A),if y then (1,false,0,0) else (0,B),false) p):=by
 have ed:Go.Proofs.YteblinkehldghaaGreatDoor.jrat (gdn A p)=outF (gdn A p):=rat_out (gdn_fr (t:=A) p).pos (gdn_fr (t:=A) p).zs;have eu:Go.Proofs.YteblinkehldghaaGreatDoor.jrat (gup B p)=outF (gup B p):=rat_out (gup_fr (t:=B) p).pos (gup_fr (t:=B) p).zs
 cases x<;>cases y
 ·refine⟨?_,?_⟩
  ·show(big (gdn A p).2.1 (gdn A p).2.2 || big (gup B p).2.1 (gup B p).2.2)=(decide ((0:Int)=0) && big (gdn A p).2.1 (gdn A p).2.2 || decide ((0:Int)=0) && big (gup B p).2.1 (gup B p).2.2);simp
  ·show(jrat (gdn A p),jrat (gup B p),false,false)=(outF (gdn A p),outF (gup B p),false,false);rw[ed,eu]
 ·refine⟨?_,?_⟩
  ·show(big (gdn A p).2.1 (gdn A p).2.2 || big 0 0)=(decide ((0:Int)=0) && big (gdn A p).2.1 (gdn A p).2.2 || decide ((1:Int)=0) && big 0 0);rw[big_zero];simp
  ·show(jrat (gdn A p),jrat (false,0,0),false,true)=(outF (gdn A p),(false,0,0),false,true);rw[ed,jrat_zero]
 ·refine⟨?_,?_⟩
  ·show(big 0 0 || big (gup B p).2.1 (gup B p).2.2)=(decide ((-1:Int)=0) && big 0 0 || decide ((0:Int)=0) && big (gup B p).2.1 (gup B p).2.2);rw[big_zero];simp
  ·show(jrat (false,0,0),jrat (gup B p),true,false)=((false,0,0),outF (gup B p),true,false);rw[eu,jrat_zero]
 ·refine⟨?_,?_⟩
  ·show(big 0 0 || big 0 0)=(decide ((-1:Int)=0) && big 0 0 || decide ((1:Int)=0) && big 0 0);rw[big_zero];simp
  ·show(jrat (false,0,0),jrat (false,0,0),true,true)=((false,0,0),(false,0,0),true,true);rw[jrat_zero]
def mkS (A B:Tq) (x y:Bool):Ts:=(if x then (-1,false,0,0) else (0,A),if y then (1,false,0,0) else (0,B),false)
def mkJ (A B:Tq) (x y:Bool):Tj:=(if x then (false,0,0) else A,if y then (false,0,0) else B,x,y,false)
theorem srd_mk{a b:Tq}{x y:Bool}(he:(srd (a,b,x,y)).2.2=false):srd (a,b,x,y)=mkS (fr a) (fr b) x y:=by
 have e:srd (a,b,x,y)=(rdE x (-1) a,rdE y 1 b,(srd (a,b,x,y)).2.2):=rfl;rw[e,he]
 cases x<;>cases y<;>rfl
def pabs (A B:Tq) (x y:Bool):Ti:=
 if !x && decide (0≤sgn A.1 A.2.1) then (A,B,x,y) else if !y && decide (sgn B.1 B.2.1≤0) then (fneg B,fneg A,y,x) else ((false,0,1),qmax (fneg A) B,false,x || y)
theorem sabs_mk(A B:Tq)(x y:Bool):sabs (mkS A B x y)=mkS (pabs A B x y).1 (pabs A B x y).2.1 (pabs A B x y).2.2.1 (pabs A B x y).2.2.2:=by
 have el:(0≤esgn (mkS A B x y).1)↔(!x && decide (0≤sgn A.1 A.2.1))=true:=by
  cases x
  ·show 0≤sgn A.1 A.2.1↔(!false && decide (0≤sgn A.1 A.2.1))=true;simp
  ·show(0:Int)≤-1↔_;simp
 have eh:(esgn (mkS A B x y).2.1≤0)↔(!y && decide (sgn B.1 B.2.1≤0))=true:=by
  cases y
  ·show sgn B.1 B.2.1≤0↔(!false && decide (sgn B.1 B.2.1≤0))=true;simp
  ·show(1:Int)≤0↔_;simp
 unfold sabs pabs
 by_cases hl:0≤esgn (mkS A B x y).1
 ·rw[if_pos hl,if_pos (el.1 hl)]
 ·have hl':=Bool.eq_false_iff.2 (fun h=>hl (el.2 h));rw[if_neg hl,hl']
  by_cases hh:esgn (mkS A B x y).2.1≤0
  ·rw[if_pos hh,eh.1 hh]
   cases x<;>cases y<;>rfl
  ·have hh':=Bool.eq_false_iff.2 (fun h=>hh (eh.2 h));rw[if_neg hh,hh']
   cases x<;>cases y
   ·show((0,false,0,1),emax (0,fneg A) (0,B),false)=mkS (false,0,1) (qmax (fneg A) B) false false;rw[emax_fin];rfl
   all_goals rfl
def zrel (A:Tq) (x:Bool) (lo:Tq):Prop:=if x then lo=(false,0,0) else (lo=A∨(lo=(false,0,0)∧A=(false,0,1)))
theorem zrel.neg{A lo:Tq}{x:Bool}(h:zrel A x lo):zrel (fneg A) x (fneg lo):=by
 cases x
 ·rcases h with rfl | ⟨rfl,rfl⟩
  ·exact .inl rfl
  ·exact .inr ⟨rfl,rfl⟩
 ·have h:lo=(false,0,0):=h;subst h;rfl
def ppos (A B:Tq) (x y:Bool) (k:Nat):Ti:=
 if k % 2=0 then (fpow (pabs A B x y).1 k,fpow (pabs A B x y).2.1 k,(pabs A B x y).2.2.1,(pabs A B x y).2.2.2) else (fpow A k,fpow B k,x,y)
theorem epw_mk{A B:Tq}{x y:Bool}(k:Nat):(epw (mkS A B x y).1 k,epw (mkS A B x y).2.1 k,false)=mkS (fpow A k) (fpow B k) x y:=by
 cases x<;>cases y<;>rfl
theorem spos_mk(A B:Tq)(x y:Bool)(k:Nat):spos (mkS A B x y) k=mkS (ppos A B x y k).1 (ppos A B x y k).2.1 (ppos A B x y k).2.2.1 (ppos A B x y k).2.2.2:=by
 unfold spos ppos
 by_cases h:k % 2=0
 ·rw[if_pos h,if_pos h,sabs_mk];exact epw_mk k
 ·rw[if_neg h,if_neg h];exact epw_mk k
def pinv (A B:Tq) (x y:Bool):Tq×(Tq):=(if y then (false,0,1) else frinv B,if x then (false,0,1) else frinv A)
theorem sinv_mk(A B:Tq)(x y:Bool):sinv (mkS A B x y)=mkS (pinv A B x y).1 (pinv A B x y).2 false false:=by
 cases x<;>cases y<;>rfl
def pord (A B:Tq) (x y:Bool):Prop:=(x=false→IsFr A)∧(y=false→IsFr B)∧(x=false→y=false→fcmp A B≤0)
theorem FQ.selfP{a:Tq}(h:0 < a.2.2):FQ a (sv a.1 a.2.1) (a.2.2:Int):=⟨by omega,h,rfl⟩
theorem sgn_nn{A:Tq}(h:0≤sgn A.1 A.2.1):A.1=false:=by
 unfold sgn at h;cases hs:A.1
 ·rfl
 ·rw[hs,if_pos rfl] at h;exact absurd h (by decide)
theorem fneg_nn{B:Tq}(h:sgn B.1 B.2.1≤0):(fneg B).1=false:=by
 show(!B.1 && decide (B.2.1≠0))=false;unfold sgn at h;cases hs:B.1
 ·rw[hs,if_neg (by decide)] at h
  split at h
  case isTrue h0=>rw[h0];rfl
  ·exact absurd h (by decide)
 ·rfl
theorem IsFr.opp{t:Tq}(h:IsFr t):IsFr (fneg t):=by
 obtain⟨s,n,d,hd,rfl⟩:=h;refine⟨!s,n,d,hd,?_⟩;have hg:0 < Nat.gcd n d:=Nat.gcd_pos_of_pos_right _ hd
 have e:(n / Nat.gcd n d=0)↔n=0:=by
  constructor
  ·intro h0;have h1:=Nat.div_mul_cancel (Nat.gcd_dvd_left n d);rw[h0] at h1;omega
  ·intro h0;rw[h0];exact Nat.zero_div _
 unfold fneg frac
 by_cases h0:n=0
 ·simp [h0]
 ·have h1:n / Nat.gcd n d≠0:=fun h=>h0 (e.1 h)
  simp [h0,h1]
theorem qmax_fr{s t:Tq}(hs:IsFr s)(ht:IsFr t):IsFr (qmax s t):=by unfold qmax;split<;>assumption
theorem pabs_ord{A B:Tq}{x y:Bool}(h:pord A B x y):pord (pabs A B x y).1 (pabs A B x y).2.1 (pabs A B x y).2.2.1 (pabs A B x y).2.2.2∧((pabs A B x y).2.2.1=false→(pabs A B x y).1.1=false)∧(pabs A B x y).2.2.1=false:=by
 obtain⟨h1,h2,h3⟩:=h;unfold pabs;cases c1:(!x && decide (0≤sgn A.1 A.2.1))
 ·cases c2:(!y && decide (sgn B.1 B.2.1≤0))
  ·refine⟨⟨fun _=>isFr_zero,?_,?_⟩,fun _=>rfl,rfl⟩
   ·intro hxy;have hxy:(x || y)=false:=hxy;rw[Bool.or_eq_false_iff] at hxy;exact qmax_fr (h1 hxy.1).opp (h2 hxy.2)
   ·intro _ hxy;have hxy:(x || y)=false:=hxy;rw[Bool.or_eq_false_iff] at hxy;show fcmp (false,0,1) (qmax (fneg A) B)≤0;rw[hxy.2] at c2;have c3:decide (sgn B.1 B.2.1≤0)=false:=c2;have c4:=of_decide_eq_false c3
    have hB:0≤sv B.1 B.2.1:=by have:=sv_pos (t:=B) (by omega);omega
    unfold qmax
    split
    ·exact fcmp_zero_le hB
    ·rw[hxy.1] at c1;have c5:decide (0≤sgn A.1 A.2.1)=false:=c1;exact fcmp_zero_le (sv_nonneg (of_decide_eq_false c5))
  ·rw[Bool.and_eq_true] at c2
   have hy:y=false:=by revert c2;cases y<;>simp
   refine⟨⟨fun hh=>(h2 hh).opp,fun hh=>(h1 hh).opp,fun ha hb=>fcmp_neg (h3 hb ha)⟩,fun _=>fneg_nn (of_decide_eq_true c2.2),hy⟩
 ·rw[Bool.and_eq_true] at c1
  have hx:x=false:=by revert c1;cases x<;>simp
  exact⟨⟨h1,h2,h3⟩,fun _=>sgn_nn (of_decide_eq_true c1.2),hx⟩
theorem fpow_mono{a b:Tq}{k:Nat}(ha:IsFr a)(hb:IsFr b)(h:fcmp a b≤0)(hk:k % 2=1∨a.1=false):fcmp (fpow a k) (fpow b k)≤0:=by
 rw[fcmp_nonpos] at h ⊢;have pa:=ha.pos;have pb:=hb.pos;have zb:=hb.zs;have e1:((a.2.1*b.2.2:Nat):Int)=(a.2.1:Int)*(b.2.2:Int):=Int.natCast_mul _ _;have e2:((b.2.1*a.2.2:Nat):Int)=(b.2.1:Int)*(a.2.2:Int):=Int.natCast_mul _ _;have e3:((a.2.1 ^ k*b.2.2 ^ k:Nat):Int)=((a.2.1 ^ k:Nat):Int)*((b.2.2 ^ k:Nat):Int):=Int.natCast_mul _ _;have e4:((b.2.1 ^ k*a.2.2 ^ k:Nat):Int)=((b.2.1 ^ k:Nat):Int)*((a.2.2 ^ k:Nat):Int):=Int.natCast_mul _ _
 have m1:a.2.1*b.2.2≤b.2.1*a.2.2→a.2.1 ^ k*b.2.2 ^ k≤b.2.1 ^ k*a.2.2 ^ k:=by
  intro hh;rw[←Nat.mul_pow,←Nat.mul_pow];exact Nat.pow_le_pow_left hh k
 have m2:b.2.1*a.2.2≤a.2.1*b.2.2→b.2.1 ^ k*a.2.2 ^ k≤a.2.1 ^ k*b.2.2 ^ k:=by
  intro hh;rw[←Nat.mul_pow,←Nat.mul_pow];exact Nat.pow_le_pow_left hh k
 show sv (a.1 && decide (k % 2=1)) (a.2.1 ^ k)*((b.2.2 ^ k:Nat):Int)≤sv (b.1 && decide (k % 2=1)) (b.2.1 ^ k)*((a.2.2 ^ k:Nat):Int)
 cases hsa:a.1<;>cases hsb:b.1<;>rw[hsa,hsb] at h<;>unfold sv at h ⊢<;>simp only[Bool.false_and,Bool.true_and,Bool.false_eq_true,if_false,if_true,Int.neg_mul] at h ⊢
 ·have:=m1 (by omega);omega
 ·exfalso
  have h0:b.2.1*a.2.2=0:=by omega
  rcases Nat.mul_eq_zero.1 h0 with h1 | h1
  ·exact absurd (hsb.symm.trans (zb h1)) (by decide)
  ·omega
 ·rcases hk with hk | hk
  ·rw[decide_eq_true hk];simp only[if_true,Int.neg_mul];omega
  ·exact absurd (hsa.symm.trans hk) (by decide)
 ·rcases hk with hk | hk
  ·rw[decide_eq_true hk];simp only[if_true,Int.neg_mul];have:=m2 (by omega);omega
  ·exact absurd (hsa.symm.trans hk) (by decide)
theorem ppos_ord{A B:Tq}{x y:Bool}{k:Nat}(h:pord A B x y):pord (ppos A B x y k).1 (ppos A B x y k).2.1 (ppos A B x y k).2.2.1 (ppos A B x y k).2.2.2:=by
 unfold ppos
 by_cases hk:k % 2=0
 ·rw[if_pos hk];obtain⟨⟨p1,p2,p3⟩,p4,_⟩:=pabs_ord h;exact⟨fun hx=>(p1 hx).pow k,fun hy=>(p2 hy).pow k,fun hx hy=>fpow_mono (p1 hx) (p2 hy) (p3 hx hy) (.inr (p4 hx))⟩
 ·rw[if_neg hk];exact⟨fun hx=>(h.1 hx).pow k,fun hy=>(h.2.1 hy).pow k,fun hx hy=>fpow_mono (h.1 hx) (h.2.1 hy) (h.2.2 hx hy) (.inl (by omega))⟩
def pside (A B:Tq) (x y:Bool):Prop:=(x=false∧0 < sgn A.1 A.2.1)∨(y=false∧sgn B.1 B.2.1 < 0)
theorem sgn_ps{A:Tq}(h:0 < sgn A.1 A.2.1):A.1=false∧A.2.1≠0:=by
 unfold sgn at h;cases hs:A.1
 ·rw[hs,if_neg (by decide)] at h
  split at h
  ·exact absurd h (by decide)
  case isFalse h0=>exact⟨rfl,h0⟩
 ·rw[hs,if_pos rfl] at h;exact absurd h (by decide)
theorem sgn_ng{A:Tq}(h:sgn A.1 A.2.1 < 0):A.1=true:=by
 unfold sgn at h;cases hs:A.1
 ·rw[hs,if_neg (by decide)] at h
  split at h
  ·exact absurd h (by decide)
  ·exact absurd h (by decide)
 ·rfl
theorem frinv_fr{t:Tq}(h:t.2.1≠0):IsFr (frinv t):=⟨_,_,_,Nat.pos_of_ne_zero h,rfl⟩
theorem frinv_sv{t:Tq}(h:t.2.1≠0):FQ (frinv t) (sv t.1 t.2.2) (t.2.1:Int):=frac_FQ (Nat.pos_of_ne_zero h) (by omega) rfl
theorem pside_nz{A B:Tq}{x y:Bool}(h:pord A B x y)(hs:pside A B x y):(x=false→A.2.1≠0)∧(y=false→B.2.1≠0)∧(x=false→y=false→A.1=B.1)∧(x=true→B.1=true)∧(y=true→A.1=false):=by
 rcases hs with ⟨hx,hs⟩ | ⟨hy,hs⟩
 ·have k:=sgn_ps hs
  have kB:y=false→0 < sgn B.1 B.2.1:=by
   intro hy;have:=sgn_mono (h.1 hx) (h.2.1 hy) (h.2.2 hx hy);omega
  exact⟨fun _=>k.2,fun hy=>(sgn_ps (kB hy)).2,fun _ hy=>k.1.trans (sgn_ps (kB hy)).1.symm,fun h=>absurd (hx.symm.trans h) (by decide),fun _=>k.1⟩
 ·have k:=sgn_ng hs
  have nz:∀{t:Tq},IsFr t→sgn t.1 t.2.1 < 0→t.2.1≠0:=by
   intro t ht hs h0;exact absurd ((sgn_ng hs).symm.trans (ht.zs h0)) (by decide)
  have kA:x=false→sgn A.1 A.2.1 < 0:=by
   intro hx;have:=sgn_mono (h.1 hx) (h.2.1 hy) (h.2.2 hx hy);omega
  exact⟨fun hx=>nz (h.1 hx) (kA hx),fun _=>nz (h.2.1 hy) hs,fun hx _=>(sgn_ng (kA hx)).trans k.symm,fun _=>k,fun h=>absurd (hy.symm.trans h) (by decide)⟩
theorem pinv_ord{A B:Tq}{x y:Bool}(h:pord A B x y)(hs:pside A B x y):pord (pinv A B x y).1 (pinv A B x y).2 false false:=by
 obtain⟨nA,nB,sAB,sX,sY⟩:=pside_nz h hs;unfold pinv;refine⟨fun _=>?_,fun _=>?_,fun _ _=>?_⟩
 ·cases y
  ·exact frinv_fr (nB rfl)
  ·exact isFr_zero
 ·cases x
  ·exact frinv_fr (nA rfl)
  ·exact isFr_zero
 ·cases x<;>cases y
  ·show fcmp (frinv B) (frinv A)≤0;have hle:=h.2.2 rfl rfl
   have qA:(0:Int) < (A.2.1:Int):=by have:=nA rfl;omega
   have qB:(0:Int) < (B.2.1:Int):=by have:=nB rfl;omega
   rw[fcmp_nonpos] at hle;rw[fcmp_Q (frinv_sv (nB rfl)) (frinv_sv (nA rfl)) qB qA,cmpI_nonpos];have e1:((A.2.1*B.2.2:Nat):Int)=(A.2.1:Int)*(B.2.2:Int):=Int.natCast_mul _ _;have e2:((B.2.1*A.2.2:Nat):Int)=(B.2.1:Int)*(A.2.2:Int):=Int.natCast_mul _ _;have e3:(B.2.2:Int)*(A.2.1:Int)=(A.2.1:Int)*(B.2.2:Int):=Int.mul_comm _ _;have e4:(A.2.2:Int)*(B.2.1:Int)=(B.2.1:Int)*(A.2.2:Int):=Int.mul_comm _ _;rw[sAB rfl rfl] at hle ⊢
   cases hb:B.1<;>rw[hb] at hle<;>unfold sv at hle ⊢<;>simp only[Bool.false_eq_true,if_false,if_true,Int.neg_mul] at hle ⊢<;>omega
  ·show fcmp (false,0,1) (frinv A)≤0;rw[fcmp_Q (FQ.selfP (by decide)) (frinv_sv (nA rfl)) (by decide) (by have:=nA rfl;omega),cmpI_nonpos,sY rfl];unfold sv;simp only[Bool.false_eq_true,if_false];show(0:Int)*_≤_;rw[Int.zero_mul];omega
  ·show fcmp (frinv B) (false,0,1)≤0;rw[fcmp_Q (frinv_sv (nB rfl)) (FQ.selfP (by decide)) (by have:=nB rfl;omega) (by decide),cmpI_nonpos,sX rfl];unfold sv;simp only[Bool.false_eq_true,if_false,if_true];show - (B.2.2:Int)*1≤0*_;rw[Int.zero_mul];omega
  ·show fcmp (false,0,1) (false,0,1)≤0;decide+kernel
theorem szero_mk{A B:Tq}{x y:Bool}:szero (mkS A B x y)=false→pside A B x y:=by
 intro h;unfold szero at h;rw[Bool.and_eq_false_iff] at h
 rcases h with h | h
 ·have h:=of_decide_eq_false h;cases x
  ·have h:¬sgn A.1 A.2.1≤0:=h;exact .inl ⟨rfl,by omega⟩
  ·exact absurd (show(-1:Int)≤0 by decide) h
 ·have h:=of_decide_eq_false h;cases y
  ·have h:¬0≤sgn B.1 B.2.1:=h;exact .inr ⟨rfl,by omega⟩
  ·exact absurd (show(0:Int)≤1 by decide) h
theorem srd_ord{a b:Tq}{x y:Bool}(he:(srd (a,b,x,y)).2.2=false):pord (fr a) (fr b) x y:=by
 refine⟨fun _=>IsFr.fr a,fun _=>IsFr.fr b,?_⟩;intro hx hy;subst hx hy;have hle:decide (0 < ecmp (rdE false (-1) a) (rdE false 1 b))=false:=he;have hle:=of_decide_eq_false hle
 have e3:ecmp (rdE false (-1) a) (rdE false 1 b)=fcmp (fr a) (fr b):=by show ecmp (0,fr a) (0,fr b)=_;unfold ecmp;simp
 omega
theorem pord.fr{A B:Tq}{x y:Bool}(h:pord A B x y):JFr (mkJ A B x y):=by
 obtain⟨h1,h2,h3⟩:=h;refine⟨rfl,?_,?_,?_⟩
 ·cases x
  ·exact .inr ⟨rfl,h1 rfl⟩
  ·exact .inl ⟨rfl,rfl⟩
 ·cases y
  ·exact .inr ⟨rfl,h2 rfl⟩
  ·exact .inl ⟨rfl,rfl⟩
 ·intro hx hy;have hx:x=false:=hx;have hy:y=false:=hy;subst hx hy;exact h3 rfl rfl
theorem fq_self{t:Tq}(h:0 < t.2.2):FQ t (sv t.1 t.2.1) (t.2.2:Int):=⟨by omega,h,rfl⟩
theorem two_pow_pos(p:Nat):(0:Int) < ((2 ^ p:Nat):Int):=by have:0 < 2 ^ p:=Nat.pow_pos (by decide);omega
theorem fq_le{a b:Tq}{p q p' q':Int}(h:FQ a p q)(h':FQ b p' q')(hq:0 < q)(hq':0 < q'):fcmp a b≤0↔p*q'≤p'*q:=by
 rw[fcmp_Q h h' hq hq'];exact cmpI_nonpos
theorem gdn_le{t:Tq}(p:Nat)(h:0 < t.2.2):fcmp (gdn t p) t≤0:=by
 obtain⟨A,U,f1,_,h1,_⟩:=steps_math (p:=p) rfl h;rw[fq_le f1 (fq_self h) (two_pow_pos p) (by omega)];exact h1
theorem gdn_least{s t:Tq}(p:Nat)(hs:0 < s.2.2)(ht:0 < t.2.2)(h:fcmp (gdn s p) t≤0):fcmp (gdn s p) (gdn t p)≤0:=by
 obtain⟨A,_,f1,_⟩:=steps_math (p:=p) rfl hs;obtain⟨B,_,g1,_,_,k2,_⟩:=steps_math (p:=p) rfl ht;rw[fq_le f1 (fq_self ht) (two_pow_pos p) (by omega)] at h;rw[fq_le f1 g1 (two_pow_pos p) (two_pow_pos p)]
 have dp:(0:Int) < t.2.2:=by omega
 have k3:A*(t.2.2:Int) < (B+1)*(t.2.2:Int):=by omega
 have k4:=Int.lt_of_mul_lt_mul_right k3 (Int.le_of_lt dp);exact Int.mul_le_mul_of_nonneg_right (by omega) (Int.le_of_lt (two_pow_pos p))
end Go.Proofs.YteblinkehldghaaGreatDoor
