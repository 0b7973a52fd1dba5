/- Size of the reference: the absolute values of a set. -/
import Derived.Test.YteblinkehldghaaGreatDoorAbsI
import Derived.Test.YteblinkehldghaaGreatDoorHasT
import Derived.Test.YteblinkehldghaaGreatDoorLawD
import Derived.Test.YteblinkehldghaaGreatDoorHasU
import Derived.Test.YteblinkehldghaaGreatDoorNegI
import Derived.Test.YteblinkehldghaaGreatDoorPwiI
import Derived.Test.YteblinkehldghaaGreatDoorRndJ
import Derived.Test.YteblinkehldghaaGreatDoorAddK
import Derived.Test.YteblinkehldghaaGreatDoorPwiJ
namespace Go.Proofs.YteblinkehldghaaGreatDoor
open Go.RowKit Dg
theorem QOk.neg{t:Tq}(h:QOk t):QOk (fneg t):=by
 obtain⟨s,n,d,hd,rfl⟩:=h.1;rw[fneg_frac hd];exact⟨⟨_,_,_,hd,rfl⟩,h.2.1,h.2.2⟩
theorem EOk.max{A:Nat}{x y:Int×Tq}(hx:EOk A x)(hy:EOk A y):EOk A (emax x y):=by unfold emax;split<;>assumption
theorem isFr_zero:IsFr (false,0,1):=⟨false,0,1,Nat.one_pos,by decide⟩
theorem EOk.zero{A:Nat}(hA:0 < A):EOk A (0,false,0,1):=⟨fun _=>isFr_zero,fun h=>absurd rfl h,Nat.pow_pos W32_pos,Nat.one_lt_pow (by omega) (by decide)⟩
theorem QFit.zero:QFit (false,0,1):=⟨isFr_zero,Nat.pow_pos W32_pos,Nat.one_lt_pow (by omega) (by decide)⟩
theorem QFit.max{s t:Tq}(hs:QFit s)(ht:QFit t):QFit (qmax s t):=by unfold qmax;split<;>assumption
theorem ecmp_fin(a b:Tq):ecmp (0,a) (0,b)=fcmp a b:=by unfold ecmp;simp
theorem sgn_three(s:Bool)(n:Nat):sgn s n=-1∨sgn s n=0∨sgn s n=1:=by
 unfold sgn
 repeat' split
 all_goals simp
theorem sgn_sv{s:Bool}{n:Nat}(h:n=0→s=false):(sgn s n=-1↔sv s n < 0)∧(sgn s n=0↔sv s n=0)∧(sgn s n=1↔0 < sv s n):=by
 unfold sgn sv;cases s
 ·by_cases h0:n=0
  ·subst h0;simp
  ·have hp:(0:Int) < n:=by omega
   rw[if_neg h0];simp only[Bool.false_eq_true,if_false]
   refine⟨⟨fun h=>?_,fun h=>?_⟩,⟨fun h=>?_,fun h=>?_⟩,⟨fun h=>?_,fun h=>?_⟩⟩<;>first | exact trivial | omega
 ·have h0:n≠0:=fun e=>absurd (h e) (by decide)
  have hp:(0:Int) < n:=by omega
  simp only[if_true]
  refine⟨⟨fun h=>?_,fun h=>?_⟩,⟨fun h=>?_,fun h=>?_⟩,⟨fun h=>?_,fun h=>?_⟩⟩<;>first | exact trivial | omega
theorem sgn_mono{a b:Tq}(ha:IsFr a)(hb:IsFr b)(h:fcmp a b≤0):sgn a.1 a.2.1≤sgn b.1 b.2.1:=by
 rw[fcmp_nonpos] at h;have h1:=sgn_sv ha.zs;have h2:=sgn_sv hb.zs
 have hp:(0:Int) < a.2.2:=by have:=ha.pos;omega
 have hq:(0:Int) < b.2.2:=by have:=hb.pos;omega
 have t1:=sgn_three a.1 a.2.1;have t2:=sgn_three b.1 b.2.1;generalize sgn a.1 a.2.1=A at *;generalize sgn b.1 b.2.1=B at *;generalize sv a.1 a.2.1=x at *;generalize sv b.1 b.2.1=y at *;generalize(a.2.2:Int)=p at *;generalize(b.2.2:Int)=q at *
 have k1:y < 0→x < 0:=by
  intro hy;have e1:=Int.mul_neg_of_neg_of_pos hy hp
  by_cases hx:x < 0
  ·exact hx
  ·have e2:=Int.mul_nonneg (a:=x) (b:=q) (by omega) (by omega);omega
 have k2:y≤0→x≤0:=by
  intro hy;have e1:=Int.mul_le_mul_of_nonneg_right hy (Int.le_of_lt hp);rw[Int.zero_mul] at e1
  by_cases hx:x≤0
  ·exact hx
  ·have e2:=Int.mul_pos (a:=x) (b:=q) (by omega) hq;omega
 omega
theorem IsFr.nulP:IsFr (false,0,1):=⟨false,0,1,by decide,rfl⟩
theorem gdn_100b{t:Tq}{p A:Nat}(hn:t.2.1 < W32 ^ A)(hA:A≤3000)(hp:p≤128):(gdn t p).2.1 < W32 ^ 100000∧(gdn t p).2.2 < W32 ^ 100000:=by
 have h1:t.2.1*2 ^ p < W32 ^ (A+31251):=shg_W hn (by omega);have h2:botn (t.1,t.2.1*2 ^ p,t.2.2) < W32 ^ (A+31251+1):=Nat.lt_of_le_of_lt (botn_le _) (succ_W h1);refine⟨Nat.lt_of_le_of_lt (Nat.div_le_self _ _) ?_,Nat.lt_of_le_of_lt (Nat.div_le_self _ _) (pow2_W100k hp)⟩;generalize hX:31251=X at *;generalize hB:100000=B at *;generalize hC:3000=C at *;exact lt_pow h2 (by omega)
theorem EOk.iv{x:Int×Tq}(h:EOk 64 x)(hz:x.1=0→x.2.2.1≠0):EOk 64 (einv x):=by
 unfold einv
 by_cases h0:x.1=0
 ·rw[if_pos h0];exact⟨fun _=>⟨_,_,_,Nat.pos_of_ne_zero (hz h0),rfl⟩,fun h=>absurd rfl h,Nat.lt_of_le_of_lt (Nat.div_le_self _ _) h.bd,Nat.lt_of_le_of_lt (Nat.div_le_self _ _) h.bn⟩
 ·rw[if_neg h0];exact⟨fun _=>IsFr.nulP,fun h=>absurd rfl h,Nat.pow_pos W32_pos,Nat.one_lt_pow (by omega) (by decide)⟩
theorem fin_nz{x:Ts}(hx:EOk 64 x.1∧EOk 64 x.2.1)(h:szero x=false)(hle:x.1.1=0→x.2.1.1=0→fcmp x.1.2 x.2.1.2≤0)(hi:x.1.1=0∨x.1.1=-1)(hj:x.2.1.1=0∨x.2.1.1=1):(x.1.1=0→x.1.2.2.1≠0)∧(x.2.1.1=0→x.2.1.2.2.1≠0):=by
 unfold szero at h
 have ea:∀{y:Int×Tq},EOk 64 y→y.1=0→y.2.2.1=0→esgn y=0:=by
  intro y hy h1 h2;unfold esgn;rw[if_pos h1,(hy.fin h1).zs h2,h2];rfl
 constructor
 ·intro h0 h1;rw[ea hx.1 h0 h1] at h;rw[show decide ((0:Int)≤0)=true from rfl,Bool.true_and] at h;have h:=of_decide_eq_false h
  rcases hj with hj | hj
  ·have hl:=sgn_mono (hx.1.fin h0) (hx.2.fin hj) (hle h0 hj)
   have e2:esgn x.2.1=sgn x.2.1.2.1 x.2.1.2.2.1:=by unfold esgn;rw[if_pos hj]
   have e1:sgn x.1.2.1 x.1.2.2.1=0:=by rw[(hx.1.fin h0).zs h1,h1];rfl
   omega
  ·have e2:esgn x.2.1=1:=by unfold esgn;rw[if_neg (by omega),hj]
   omega
 ·intro h0 h1;rw[ea hx.2 h0 h1] at h;rw[show decide ((0:Int)≤0)=true from rfl,Bool.and_true] at h;have h:=of_decide_eq_false h
  rcases hi with hi | hi
  ·have hl:=sgn_mono (hx.1.fin hi) (hx.2.fin h0) (hle hi h0)
   have e2:esgn x.1=sgn x.1.2.1 x.1.2.2.1:=by unfold esgn;rw[if_pos hi]
   have e1:sgn x.2.1.2.1 x.2.1.2.2.1=0:=by rw[(hx.2.fin h0).zs h1,h1];rfl
   omega
  ·have e2:esgn x.1=-1:=by unfold esgn;rw[if_neg (by omega),hi]
   omega
theorem srd_nz{a b:Tq}{x y:Bool}(h1:large a.2.1 a.2.2=false)(h2:large b.2.1 b.2.2=false)(he:(srd (a,b,x,y)).2.2=false)(h:szero (srd (a,b,x,y))=false):((srd (a,b,x,y)).1.1=0→(srd (a,b,x,y)).1.2.2.1≠0)∧((srd (a,b,x,y)).2.1.1=0→(srd (a,b,x,y)).2.1.2.2.1≠0):=by
 refine fin_nz ⟨rdE_ok (.inr rfl) h1,rdE_ok (.inl rfl) h2⟩ h ?_ ?_ ?_
 ·cases x<;>cases y
  ·intro _ _;have hle:decide (0 < ecmp (rdE false (-1) a) (rdE false 1 b))=false:=he;have hle:=of_decide_eq_false hle
   have e3:ecmp (rdE false (-1) a) (rdE false 1 b)=fcmp (fr a) (fr b):=by show ecmp (0,fr a) (0,fr b)=_;unfold ecmp;simp
   rw[e3] at hle;show fcmp (fr a) (fr b)≤0;omega
  ·intro _ h;have h:(1:Int)=0:=h;omega
  ·intro h;have h:(-1:Int)=0:=h;omega
  ·intro h;have h:(-1:Int)=0:=h;omega
 ·cases x
  ·exact .inl rfl
  ·exact .inr rfl
 ·cases y
  ·exact .inl rfl
  ·exact .inr rfl
def mkS (A B:Tq) (x y:Bool):Ts:=(if x then (-1,false,0,0) else (0,A),if y then (1,false,0,0) else (0,B),false)
def mkJ (A B:Tq) (x y:Bool):Tj:=(if x then (false,0,0) else A,if y then (false,0,0) else B,x,y,false)
theorem srd_mk{a b:Tq}{x y:Bool}(he:(srd (a,b,x,y)).2.2=false):srd (a,b,x,y)=mkS (fr a) (fr b) x y:=by
 have e:srd (a,b,x,y)=(rdE x (-1) a,rdE y 1 b,(srd (a,b,x,y)).2.2):=rfl;rw[e,he]
 cases x<;>cases y<;>rfl
theorem jof_mk{a b:Tq}{x y:Bool}(he:(srd (a,b,x,y)).2.2=false):jof (a,b,x,y)=mkJ (fr a) (fr b) x y:=jof_in he
def zrel (A:Tq) (x:Bool) (lo:Tq):Prop:=if x then lo=(false,0,0) else (lo=A∨(lo=(false,0,0)∧A=(false,0,1)))
theorem zrel.sgn{A lo:Tq}(h:zrel A false lo):sgn lo.1 lo.2.1=Go.Proofs.YteblinkehldghaaGreatDoor.sgn A.1 A.2.1:=by
 rcases h with rfl | ⟨rfl,rfl⟩
 ·rfl
 ·rfl
theorem zrel.neg{A lo:Tq}{x:Bool}(h:zrel A x lo):zrel (fneg A) x (fneg lo):=by
 cases x
 ·rcases h with rfl | ⟨rfl,rfl⟩
  ·exact .inl rfl
  ·exact .inr ⟨rfl,rfl⟩
 ·have h:lo=(false,0,0):=h;subst h;rfl
theorem zrel.nz{A lo:Tq}(h:zrel A false lo)(hs:Go.Proofs.YteblinkehldghaaGreatDoor.sgn A.1 A.2.1≠0):lo=A:=by
 rcases h with rfl | ⟨rfl,rfl⟩
 ·rfl
 ·exact absurd rfl hs
def pinv (A B:Tq) (x y:Bool):Tq×(Tq):=(if y then (false,0,1) else frinv B,if x then (false,0,1) else frinv A)
theorem sinv_mk(A B:Tq)(x y:Bool):sinv (mkS A B x y)=mkS (pinv A B x y).1 (pinv A B x y).2 false false:=by
 cases x<;>cases y<;>rfl
def pord (A B:Tq) (x y:Bool):Prop:=(x=false→IsFr A)∧(y=false→IsFr B)∧(x=false→y=false→fcmp A B≤0)
theorem FQ.selfP{a:Tq}(h:0 < a.2.2):FQ a (sv a.1 a.2.1) (a.2.2:Int):=⟨by omega,h,rfl⟩
theorem sgn_nn{A:Tq}(h:0≤sgn A.1 A.2.1):A.1=false:=by
 unfold sgn at h;cases hs:A.1
 ·rfl
 ·rw[hs,if_pos rfl] at h;exact absurd h (by decide)
theorem IsFr.opp{t:Tq}(h:IsFr t):IsFr (fneg t):=by
 obtain⟨s,n,d,hd,rfl⟩:=h;refine⟨!s,n,d,hd,?_⟩;have hg:0 < Nat.gcd n d:=Nat.gcd_pos_of_pos_right _ hd
 have e:(n / Nat.gcd n d=0)↔n=0:=by
  constructor
  ·intro h0;have h1:=Nat.div_mul_cancel (Nat.gcd_dvd_left n d);rw[h0] at h1;omega
  ·intro h0;rw[h0];exact Nat.zero_div _
 unfold fneg frac
 by_cases h0:n=0
 ·simp [h0]
 ·have h1:n / Nat.gcd n d≠0:=fun h=>h0 (e.1 h)
  simp [h0,h1]
def pside (A B:Tq) (x y:Bool):Prop:=(x=false∧0 < sgn A.1 A.2.1)∨(y=false∧sgn B.1 B.2.1 < 0)
theorem sgn_ps{A:Tq}(h:0 < sgn A.1 A.2.1):A.1=false∧A.2.1≠0:=by
 unfold sgn at h;cases hs:A.1
 ·rw[hs,if_neg (by decide)] at h
  split at h
  ·exact absurd h (by decide)
  case isFalse h0=>exact⟨rfl,h0⟩
 ·rw[hs,if_pos rfl] at h;exact absurd h (by decide)
theorem sgn_ng{A:Tq}(h:sgn A.1 A.2.1 < 0):A.1=true:=by
 unfold sgn at h;cases hs:A.1
 ·rw[hs,if_neg (by decide)] at h
  split at h
  ·exact absurd h (by decide)
  ·exact absurd h (by decide)
 ·rfl
theorem frinv_fr{t:Tq}(h:t.2.1≠0):IsFr (frinv t):=⟨_,_,_,Nat.pos_of_ne_zero h,rfl⟩
theorem frinv_sv{t:Tq}(h:t.2.1≠0):FQ (frinv t) (sv t.1 t.2.2) (t.2.1:Int):=frac_FQ (Nat.pos_of_ne_zero h) (by omega) rfl
theorem pside_nz{A B:Tq}{x y:Bool}(h:pord A B x y)(hs:pside A B x y):(x=false→A.2.1≠0)∧(y=false→B.2.1≠0)∧(x=false→y=false→A.1=B.1)∧(x=true→B.1=true)∧(y=true→A.1=false):=by
 rcases hs with ⟨hx,hs⟩ | ⟨hy,hs⟩
 ·have k:=sgn_ps hs
  have kB:y=false→0 < sgn B.1 B.2.1:=by
   intro hy;have:=sgn_mono (h.1 hx) (h.2.1 hy) (h.2.2 hx hy);omega
  exact⟨fun _=>k.2,fun hy=>(sgn_ps (kB hy)).2,fun _ hy=>k.1.trans (sgn_ps (kB hy)).1.symm,fun h=>absurd (hx.symm.trans h) (by decide),fun _=>k.1⟩
 ·have k:=sgn_ng hs
  have nz:∀{t:Tq},IsFr t→sgn t.1 t.2.1 < 0→t.2.1≠0:=by
   intro t ht hs h0;exact absurd ((sgn_ng hs).symm.trans (ht.zs h0)) (by decide)
  have kA:x=false→sgn A.1 A.2.1 < 0:=by
   intro hx;have:=sgn_mono (h.1 hx) (h.2.1 hy) (h.2.2 hx hy);omega
  exact⟨fun hx=>nz (h.1 hx) (kA hx),fun _=>nz (h.2.1 hy) hs,fun hx _=>(sgn_ng (kA hx)).trans k.symm,fun _=>k,fun h=>absurd (hy.symm.trans h) (by decide)⟩
theorem pinv_ord{A B:Tq}{x y:Bool}(h:pord A B x y)(hs:pside A B x y):pord (pinv A B x y).1 (pinv A B x y).2 false false:=by
 obtain⟨nA,nB,sAB,sX,sY⟩:=pside_nz h hs;unfold pinv;refine⟨fun _=>?_,fun _=>?_,fun _ _=>?_⟩
 ·cases y
  ·exact frinv_fr (nB rfl)
  ·exact isFr_zero
 ·cases x
  ·exact frinv_fr (nA rfl)
  ·exact isFr_zero
 ·cases x<;>cases y
  ·show fcmp (frinv B) (frinv A)≤0;have hle:=h.2.2 rfl rfl
   have qA:(0:Int) < (A.2.1:Int):=by have:=nA rfl;omega
   have qB:(0:Int) < (B.2.1:Int):=by have:=nB rfl;omega
   rw[fcmp_nonpos] at hle;rw[fcmp_Q (frinv_sv (nB rfl)) (frinv_sv (nA rfl)) qB qA,cmpI_nonpos];have e1:((A.2.1*B.2.2:Nat):Int)=(A.2.1:Int)*(B.2.2:Int):=Int.natCast_mul _ _;have e2:((B.2.1*A.2.2:Nat):Int)=(B.2.1:Int)*(A.2.2:Int):=Int.natCast_mul _ _;have e3:(B.2.2:Int)*(A.2.1:Int)=(A.2.1:Int)*(B.2.2:Int):=Int.mul_comm _ _;have e4:(A.2.2:Int)*(B.2.1:Int)=(B.2.1:Int)*(A.2.2:Int):=Int.mul_comm _ _;rw[sAB rfl rfl] at hle ⊢
   cases hb:B.1<;>rw[hb] at hle<;>unfold sv at hle ⊢<;>simp only[Bool.false_eq_true,if_false,if_true,Int.neg_mul] at hle ⊢<;>omega
  ·show fcmp (false,0,1) (frinv A)≤0;rw[fcmp_Q (FQ.selfP (by decide)) (frinv_sv (nA rfl)) (by decide) (by have:=nA rfl;omega),cmpI_nonpos,sY rfl];unfold sv;simp only[Bool.false_eq_true,if_false];show(0:Int)*_≤_;rw[Int.zero_mul];omega
  ·show fcmp (frinv B) (false,0,1)≤0;rw[fcmp_Q (frinv_sv (nB rfl)) (FQ.selfP (by decide)) (by have:=nB rfl;omega) (by decide),cmpI_nonpos,sX rfl];unfold sv;simp only[Bool.false_eq_true,if_false,if_true];show - (B.2.2:Int)*1≤0*_;rw[Int.zero_mul];omega
  ·show fcmp (false,0,1) (false,0,1)≤0;decide+kernel
theorem szero_mk{A B:Tq}{x y:Bool}:szero (mkS A B x y)=false→pside A B x y:=by
 intro h;unfold szero at h;rw[Bool.and_eq_false_iff] at h
 rcases h with h | h
 ·have h:=of_decide_eq_false h;cases x
  ·have h:¬sgn A.1 A.2.1≤0:=h;exact .inl ⟨rfl,by omega⟩
  ·exact absurd (show(-1:Int)≤0 by decide) h
 ·have h:=of_decide_eq_false h;cases y
  ·have h:¬0≤sgn B.1 B.2.1:=h;exact .inr ⟨rfl,by omega⟩
  ·exact absurd (show(0:Int)≤1 by decide) h
theorem srd_ord{a b:Tq}{x y:Bool}(he:(srd (a,b,x,y)).2.2=false):pord (fr a) (fr b) x y:=by
 refine⟨fun _=>IsFr.fr a,fun _=>IsFr.fr b,?_⟩;intro hx hy;subst hx hy;have hle:decide (0 < ecmp (rdE false (-1) a) (rdE false 1 b))=false:=he;have hle:=of_decide_eq_false hle
 have e3:ecmp (rdE false (-1) a) (rdE false 1 b)=fcmp (fr a) (fr b):=by show ecmp (0,fr a) (0,fr b)=_;unfold ecmp;simp
 omega
theorem pord.fr{A B:Tq}{x y:Bool}(h:pord A B x y):JFr (mkJ A B x y):=by
 obtain⟨h1,h2,h3⟩:=h;refine⟨rfl,?_,?_,?_⟩
 ·cases x
  ·exact .inr ⟨rfl,h1 rfl⟩
  ·exact .inl ⟨rfl,rfl⟩
 ·cases y
  ·exact .inr ⟨rfl,h2 rfl⟩
  ·exact .inl ⟨rfl,rfl⟩
 ·intro hx hy;have hx:x=false:=hx;have hy:y=false:=hy;subst hx hy;exact h3 rfl rfl
theorem lt_b5000{x:Nat}(h:x < W32 ^ 2100):x < B16 ^ 5000:=by
 generalize hA:2100=A at *;generalize hB:5000=B;rw[pow_two_k] at h;exact Nat.lt_of_lt_of_le h (Nat.pow_le_pow_right B16_pos (by omega))
theorem w64_b1000{x:Nat}(h:x < W32 ^ 64):x < B16 ^ 1000:=by
 generalize hB:1000=B;exact lt_W_B6 h (by omega)
theorem jround_bdB{r:Tj}(h:JFr r∧(r.1.2.1 < W32 ^ 2100∧r.1.2.2 < W32 ^ 2100)∧(r.2.1.2.1 < W32 ^ 2100∧r.2.1.2.2 < W32 ^ 2100)){p:Nat}(hp:p≤128):JBd (jround r p):=by
 obtain⟨⟨he,hl,hh,_⟩,h1,h2⟩:=h
 ·unfold jround;rw[he];refine⟨?_,?_⟩
  ·rcases hl with ⟨g1,g2⟩ | ⟨g1,g2⟩
   ·show(if r.2.2.1 then r.1 else gdn r.1 p).2.1 < _∧(if r.2.2.1 then r.1 else gdn r.1 p).2.2 < _;rw[g1,g2];exact⟨b16_0,b16_0⟩
   ·show(if r.2.2.1 then r.1 else gdn r.1 p).2.1 < _∧(if r.2.2.1 then r.1 else gdn r.1 p).2.2 < _;rw[g1];have:=gdn_100b (A:=2100) h1.1 (by omega) hp;exact⟨b16_100k this.1,b16_100k this.2⟩
  ·rcases hh with ⟨g1,g2⟩ | ⟨g1,g2⟩
   ·show(if r.2.2.2.1 then r.2.1 else gup r.2.1 p).2.1 < _∧(if r.2.2.2.1 then r.2.1 else gup r.2.1 p).2.2 < _;rw[g1,g2];exact⟨b16_0,b16_0⟩
   ·show(if r.2.2.2.1 then r.2.1 else gup r.2.1 p).2.1 < _∧(if r.2.2.2.1 then r.2.1 else gup r.2.1 p).2.2 < _;rw[g1];have:=gdn_100b (t:=fneg r.2.1) (A:=2100) h2.1 (by omega) hp;exact⟨b16_100k this.1,b16_100k this.2⟩
theorem jint_q3(n:Nat)(hn:n≤1):Hid (∀W,Calls Tryz.prog 20 #[.int .i64 (n:Int)] W fun e w'=>∃s5 p5 k5 c5 q5 l5 d5,e=.returned (.agg #[.bool s5,.slice p5 k5 c5,.slice q5 l5 d5])∧Hid (QNorm w' (.agg #[.bool s5,.slice p5 k5 c5,.slice q5 l5 d5]) (false,n,1))∧Bw W w'):=by
 refine hid fun W=>qopen (t:=(false,n,1)) ?_
 have k:=rInt_any (n:Int) W (by omega) (by omega)
 have e1:mkq (decide ((n:Int) < 0)) (n:Int).natAbs 1=(false,n,1):=by
  have:n=0∨n=1:=by omega
  rcases this with rfl | rfl<;>decide
 rw[e1] at k;exact k
theorem zrel.zs{A lo:Tq}{x:Bool}(h:zrel A x lo)(q:x=false→QFit A):lo.2.1=0→lo.1=false:=by
 cases x
 ·rcases h with rfl | ⟨rfl,_⟩
  ·exact(q rfl).1.zs
  ·exact fun _=>rfl
 ·have h:lo=(false,0,0):=h;subst h
  exact fun _=>rfl
theorem fneg2{t:Tq}(h:IsFr t):fneg (fneg t)=t:=by
 obtain⟨s,n,d⟩:=t;have hz:=h.zs;show((!(!s && decide (n≠0)) && decide (n≠0)),n,d)=(s,n,d)
 by_cases h0:n=0
 ·have:s=false:=hz h0;subst this;simp [h0]
 ·simp [h0]
theorem frinv_neg{t:Tq}(hz:t.2.1≠0)(hd:0 < t.2.2):fneg (frinv (fneg t))=frinv t:=by
 obtain⟨s,n,d⟩:=t;have hz:n≠0:=hz;have hd:0 < d:=hd
 have e1:frinv (fneg (s,n,d))=fneg (frinv (s,n,d)):=by
  have e0:fneg (s,n,d)=(!s,n,d):=by
   show(!s && decide (n≠0),n,d)=_;simp [hz]
  rw[e0];show frac (!s) d n=fneg (frac s d n);unfold fneg frac
  have hq:d / Nat.gcd d n≠0:=by
   have h1:=Nat.div_mul_cancel (Nat.gcd_dvd_left d n);intro h0;rw[h0] at h1;omega
  have hd':d≠0:=by omega
  simp [hq,hd']
 rw[e1];exact fneg2 (frinv_fr hz)
theorem jdiv_q{A:Tq}(q:QFit A)(hz:A.2.1≠0){w:World}(s1 p1 k1 c1 q1 l1 d1)(h:QNorm w (.agg #[.bool s1,.slice p1 k1 c1,.slice q1 l1 d1]) A):
  Hid (∀W s6 p6 k6 c6 q6 l6 d6,Bw w W→QNorm W (.agg #[.bool s6,.slice p6 k6 c6,.slice q6 l6 d6]) (false,1,1)→Calls Tryz.prog 68 #[.agg #[.bool s6,.slice p6 k6 c6,.slice q6 l6 d6],.agg #[.bool s1,.slice p1 k1 c1,.slice q1 l1 d1]] W fun e w'=>∃s5 p5 k5 c5 q5 l5 d5,e=.returned (.agg #[.bool s5,.slice p5 k5 c5,.slice q5 l5 d5])∧Hid (QNorm w' (.agg #[.bool s5,.slice p5 k5 c5,.slice q5 l5 d5]) (frinv A))∧Bw W w'):=by
 refine hid fun W s6 p6 k6 c6 q6 l6 d6 hW hq=>qopen (t:=frinv A) ?_
 have o1:(1:Nat) < B16 ^ 1000:=w64_b1000 (Nat.one_lt_pow (by omega) (by decide));have k:=rDiv_any _ _ (false,1,1) A 1000 W hq (h.below hW) o1 o1 (w64_b1000 q.2.1) (w64_b1000 q.2.2) (by omega) (by decide) q.1.pos (Nat.pos_of_ne_zero hz)
 have e:frac ((false:Bool) != A.1) (1*A.2.2) (1*A.2.1)=frinv A:=by
  unfold frinv;rw[Nat.one_mul,Nat.one_mul]
  cases A.1<;>rfl
 rw[e] at k;exact k
theorem jInvP_any(s1 p1 k1 c1 q1 l1 d1 sz1 pz1 kz1 cz1 qz1 lz1 dz1 x1 y1 e1){A B:Tq}{y:Bool}(w:World)(h:JRep w (.agg #[.bool s1,.slice p1 k1 c1,.slice q1 l1 d1,.bool sz1,.slice pz1 kz1 cz1,.slice qz1 lz1 dz1,.bool x1,.bool y1,.bool e1]) (mkJ A B false y))(qA:QFit A)(qB:y=false→QFit B)(hA:0 < sgn A.1 A.2.1)(hB:y=false→B.2.1≠0):
  Calls Tryz.prog 31 #[.agg #[.bool s1,.slice p1 k1 c1,.slice q1 l1 d1,.bool sz1,.slice pz1 kz1 cz1,.slice qz1 lz1 dz1,.bool x1,.bool y1,.bool e1]] w fun e w'=>∃s3 p3 k3 c3 q3 l3 d3 sz3 pz3 kz3 cz3 qz3 lz3 dz3 x3 y3 e3,e=.returned (.agg #[.bool s3,.slice p3 k3 c3,.slice q3 l3 d3,.bool sz3,.slice pz3 kz3 cz3,.slice qz3 lz3 dz3,.bool x3,.bool y3,.bool e3])∧Hid (JRep w' (.agg #[.bool s3,.slice p3 k3 c3,.slice q3 l3 d3,.bool sz3,.slice pz3 kz3 cz3,.slice qz3 lz3 dz3,.bool x3,.bool y3,.bool e3]) (if y then (false,0,0) else frinv B,frinv A,false,false,false))∧Bw w w':=by
 obtain⟨h1,h2,rfl,rfl,rfl⟩:=JRep.parts s1 p1 k1 c1 q1 l1 d1 sz1 pz1 kz1 cz1 qz1 lz1 dz1 x1 y1 e1 h;have h1:QNorm w (.agg #[.bool s1,.slice p1 k1 c1,.slice q1 l1 d1]) A:=h1;have nA:=(sgn_ps hA).2
 have HG:Hid (∀W,Bw w W→Calls Tryz.prog 66 #[.agg #[.bool s1,.slice p1 k1 c1,.slice q1 l1 d1]] W fun e w'=>e=.returned (.int .i64 (sgn A.1 A.2.1))∧Bw W w'):=hid fun W hW=>Sgn_any _ _ W (h1.below hW) qA.1.zs
 have hg:decide (sgn A.1 A.2.1 < 0)=false:=decide_eq_false (by omega);cases y1
 ·have h2:QNorm w (.agg #[.bool sz1,.slice pz1 kz1 cz1,.slice qz1 lz1 dz1]) B:=h2;exact jInv_pos s1 p1 k1 c1 q1 l1 d1 sz1 pz1 kz1 cz1 qz1 lz1 dz1 (false,1,1) (frinv A) (frinv B) w _ HG hg (jint_q3 1 (by omega)) (jdiv_q qA nA s1 p1 k1 c1 q1 l1 d1 h1) (jdiv_q (qB rfl) (hB rfl) sz1 pz1 kz1 cz1 qz1 lz1 dz1 h2)
 ·exact jInv_pos_inf s1 p1 k1 c1 q1 l1 d1 sz1 pz1 kz1 cz1 qz1 lz1 dz1 (false,1,1) (frinv A) w _ HG hg (jint_q3 1 (by omega)) (jdiv_q qA nA s1 p1 k1 c1 q1 l1 d1 h1)
theorem jInv_any(s1 p1 k1 c1 q1 l1 d1 sz1 pz1 kz1 cz1 qz1 lz1 dz1 x1 y1 e1){A B:Tq}{x y:Bool}(w:World)(h:JRep w (.agg #[.bool s1,.slice p1 k1 c1,.slice q1 l1 d1,.bool sz1,.slice pz1 kz1 cz1,.slice qz1 lz1 dz1,.bool x1,.bool y1,.bool e1]) (mkJ A B x y))(qA:x=false→QFit A)(qB:y=false→QFit B)(hord:pord A B x y)(hs:pside A B x y):
  Calls Tryz.prog 31 #[.agg #[.bool s1,.slice p1 k1 c1,.slice q1 l1 d1,.bool sz1,.slice pz1 kz1 cz1,.slice qz1 lz1 dz1,.bool x1,.bool y1,.bool e1]] w fun e w'=>∃s3 p3 k3 c3 q3 l3 d3 sz3 pz3 kz3 cz3 qz3 lz3 dz3 x3 y3 e3,e=.returned (.agg #[.bool s3,.slice p3 k3 c3,.slice q3 l3 d3,.bool sz3,.slice pz3 kz3 cz3,.slice qz3 lz3 dz3,.bool x3,.bool y3,.bool e3])∧Hid (JRep w' (.agg #[.bool s3,.slice p3 k3 c3,.slice q3 l3 d3,.bool sz3,.slice pz3 kz3 cz3,.slice qz3 lz3 dz3,.bool x3,.bool y3,.bool e3]) (if y then (false,0,0) else frinv B,if x then (false,0,0) else frinv A,false,false,false))∧Bw w w':=by
 obtain⟨nA,nB,_,_,_⟩:=pside_nz hord hs;have hs0:=hs
 rcases hs with ⟨rfl,hs⟩ | ⟨rfl,hs⟩
 ·exact jInvP_any s1 p1 k1 c1 q1 l1 d1 sz1 pz1 kz1 cz1 qz1 lz1 dz1 x1 y1 e1 w h (qA rfl) qB hs nB
 ·have hB:=qB rfl;have sB:=sgn_ng hs
  have pB:0 < sgn (fneg B).1 (fneg B).2.1:=by
   have n0:=nB rfl
   have e:fneg B=(false,B.2.1,B.2.2):=by
    show(!B.1 && decide (B.2.1≠0),B.2.1,B.2.2)=_;rw[sB];rfl
   rw[e];show 0 < (if (false:Bool)=true then (-1:Int) else if B.2.1=0 then 0 else 1);rw[if_neg (by decide),if_neg n0];decide
  obtain⟨h1,h2,rfl,rfl,rfl⟩:=JRep.parts s1 p1 k1 c1 q1 l1 d1 sz1 pz1 kz1 cz1 qz1 lz1 dz1 x1 y1 e1 h
  have em:jminus (mkJ A B x1 false)=mkJ (fneg B) (fneg A) false x1:=by
   cases x1<;>rfl
  have HM1:=hid (fun (W:World) s5 p5 k5 c5 q5 l5 d5 sz5 pz5 kz5 cz5 qz5 lz5 dz5 x5 y5 e5 (_:Bw w W) (hj:JRep W (.agg #[.bool s5,.slice p5 k5 c5,.slice q5 l5 d5,.bool sz5,.slice pz5 kz5 cz5,.slice qz5 lz5 dz5,.bool x5,.bool y5,.bool e5]) (mkJ A B x1 false))=>jMinus_any s5 p5 k5 c5 q5 l5 d5 sz5 pz5 kz5 cz5 qz5 lz5 dz5 x5 y5 e5 _ W hj);have HM2:=hid (fun (W:World) s5 p5 k5 c5 q5 l5 d5 sz5 pz5 kz5 cz5 qz5 lz5 dz5 x5 y5 e5 (_:Bw w W) (hj:JRep W (.agg #[.bool s5,.slice p5 k5 c5,.slice q5 l5 d5,.bool sz5,.slice pz5 kz5 cz5,.slice qz5 lz5 dz5,.bool x5,.bool y5,.bool e5]) (jminus (mkJ A B x1 false)))=>jInvP_any (A:=fneg B) (B:=fneg A) (y:=x1) s5 p5 k5 c5 q5 l5 d5 sz5 pz5 kz5 cz5 qz5 lz5 dz5 x5 y5 e5 W (by rw[←em];exact hj) hB.neg (fun hx=>(qA hx).neg) pB (fun hx=>by show A.2.1≠0;exact nA hx));have HM3:=hid (fun (W:World) s5 p5 k5 c5 q5 l5 d5 sz5 pz5 kz5 cz5 qz5 lz5 dz5 x5 y5 e5 (_:Bw w W) (hj:JRep W (.agg #[.bool s5,.slice p5 k5 c5,.slice q5 l5 d5,.bool sz5,.slice pz5 kz5 cz5,.slice qz5 lz5 dz5,.bool x5,.bool y5,.bool e5]) ((if x1 then (false,0,0) else frinv (fneg A),frinv (fneg B),false,false,false):Tj))=>jMinus_any s5 p5 k5 c5 q5 l5 d5 sz5 pz5 kz5 cz5 qz5 lz5 dz5 x5 y5 e5 _ W hj)
  have er:jminus ((if x1 then (false,0,0) else frinv (fneg A),frinv (fneg B),false,false,false):Tj)=(frinv B,if x1 then (false,0,0) else frinv A,false,false,false):=by
   show(fneg (frinv (fneg B)),fneg (if x1 then (false,0,0) else frinv (fneg A)),false,false,false)=_;rw[frinv_neg (nB rfl) hB.1.pos];cases x1
   ·show(frinv B,fneg (frinv (fneg A)),false,false,false)=_;rw[frinv_neg (nA rfl) (qA rfl).1.pos];rfl
   ·rfl
  rw[er] at HM3;cases x1
  ·have h1:QNorm w (.agg #[.bool s1,.slice p1 k1 c1,.slice q1 l1 d1]) A:=h1
   have sA:sgn A.1 A.2.1 < 0:=by
    have:=sgn_mono (hord.1 rfl) (hord.2.1 rfl) (hord.2.2 rfl rfl);omega
   exact jInv_neg s1 p1 k1 c1 q1 l1 d1 sz1 pz1 kz1 cz1 qz1 lz1 dz1 false _ _ _ _ w h (sgn A.1 A.2.1) (hid fun W hW=>Sgn_any _ _ W (h1.below hW) (qA rfl).1.zs) (decide_eq_true sA) HM1 HM2 HM3
  ·exact jInv_neg_inf s1 p1 k1 c1 q1 l1 d1 sz1 pz1 kz1 cz1 qz1 lz1 dz1 false _ _ _ _ w h HM1 HM2 HM3
theorem pinv_z(A B:Tq)(x y:Bool):zrel (pinv A B x y).1 false (if y then (false,0,0) else frinv B)∧zrel (pinv A B x y).2 false (if x then (false,0,0) else frinv A):=by
 constructor
 ·cases y
  ·exact .inl rfl
  ·exact .inr ⟨rfl,rfl⟩
 ·cases x
  ·exact .inl rfl
  ·exact .inr ⟨rfl,rfl⟩
theorem fcmp_zle{A:Tq}(h:IsFr A):(fcmp A (false,0,1)≤0)↔(sgn A.1 A.2.1≤0):=by
 rw[fcmp_nonpos]
 have e:sv (false,0,1).1 (false,0,1).2.1*(A.2.2:Int)=0:=by
  show((0:Nat):Int)*_=0;simp
 rw[e]
 have e1:sv A.1 A.2.1*((false,0,1):Tq).2.2=sv A.1 A.2.1:=by
  show sv A.1 A.2.1*((1:Nat):Int)=_;simp
 rw[e1];have hz:=h.zs;unfold sv sgn;cases hs:A.1
 ·simp only[Bool.false_eq_true,if_false]
  by_cases h0:A.2.1=0
  ·simp [h0]
  ·simp [h0]
 ·simp only[if_true];omega
theorem fcmp_zge{A:Tq}(h:IsFr A):(fcmp (false,0,1) A≤0)↔(0≤sgn A.1 A.2.1):=by
 rw[fcmp_nonpos]
 have e:sv (false,0,1).1 (false,0,1).2.1*(A.2.2:Int)=0:=by
  show((0:Nat):Int)*_=0;simp
 rw[e]
 have e1:sv A.1 A.2.1*((false,0,1):Tq).2.2=sv A.1 A.2.1:=by
  show sv A.1 A.2.1*((1:Nat):Int)=_;simp
 rw[e1];have hz:=h.zs;unfold sv sgn;cases hs:A.1
 ·simp only[Bool.false_eq_true,if_false]
  by_cases h0:A.2.1=0
  ·simp [h0]
  ·simp [h0]
 ·have n0:A.2.1≠0:=fun h0=>absurd (hs.symm.trans (hz h0)) (by decide)
  simp only[if_true];omega
theorem szero_jin{a b:Tq}{x y:Bool}(he:(srd (a,b,x,y)).2.2=false):szero (srd (a,b,x,y))=jin (jof (a,b,x,y)) (false,0,1):=by
 rw[srd_mk he,jof_mk he];have fa:=IsFr.fr a;have fb:=IsFr.fr b;have p1:decide (fcmp (fr a) (false,0,1)≤0)=decide (sgn (fr a).1 (fr a).2.1≤0):=decide_eq_decide.2 (fcmp_zle fa);have p2:decide (fcmp (false,0,1) (fr b)≤0)=decide (0≤sgn (fr b).1 (fr b).2.1):=decide_eq_decide.2 (fcmp_zge fb);unfold szero jin
 cases x<;>cases y
 ·show(decide (sgn (fr a).1 (fr a).2.1≤0) && decide (0≤sgn (fr b).1 (fr b).2.1))=(!false && (false || decide (fcmp (fr a) (false,0,1)≤0)) && (false || decide (fcmp (false,0,1) (fr b)≤0)));rw[p1,p2];simp
 ·show(decide (sgn (fr a).1 (fr a).2.1≤0) && decide ((0:Int)≤1))=(!false && (false || decide (fcmp (fr a) (false,0,1)≤0)) && (true || _));rw[p1];simp
 ·show(decide ((-1:Int)≤0) && decide (0≤sgn (fr b).1 (fr b).2.1))=(!false && (true || _) && (false || decide (fcmp (false,0,1) (fr b)≤0)));rw[p2];simp
 ·rfl
theorem mk_bd{P Q:Tq}{X Y:Bool}(h:EOk 2100 (mkS P Q X Y).1∧EOk 2100 (mkS P Q X Y).2.1):((mkJ P Q X Y).1.2.1 < W32 ^ 2100∧(mkJ P Q X Y).1.2.2 < W32 ^ 2100)∧((mkJ P Q X Y).2.1.2.1 < W32 ^ 2100∧(mkJ P Q X Y).2.1.2.2 < W32 ^ 2100):=by
 cases X<;>cases Y<;>exact⟨⟨h.1.bn,h.1.bd⟩,⟨h.2.bn,h.2.bd⟩⟩
end Go.Proofs.YteblinkehldghaaGreatDoor
