/- Powers and inverses of sets of both sides: the mathematics. -/
import Derived.Test.YtheojajaefjecaaGreatDoorPwiK
import Derived.Test.YtheojajaefjecaaGreatDoorRooM
namespace Go.Proofs.YtheojajaefjecaaGreatDoor
open Go.RowKit Dg
def mkS (A B:Tq) (x y:Bool):Ts:=(if x then (-1,false,0,0) else (0,A),if y then (1,false,0,0) else (0,B),false)
def mkJ (A B:Tq) (x y:Bool):Tj:=(if x then (false,0,0) else A,if y then (false,0,0) else B,x,y,false)
theorem srd_mk{a b:Tq}{x y:Bool}(he:(srd (a,b,x,y)).2.2=false):srd (a,b,x,y)=mkS (fr a) (fr b) x y:=by
 have e:srd (a,b,x,y)=(rdE x (-1) a,rdE y 1 b,(srd (a,b,x,y)).2.2):=rfl;rw[e,he]
 cases x<;>cases y<;>rfl
theorem jof_mk{a b:Tq}{x y:Bool}(he:(srd (a,b,x,y)).2.2=false):jof (a,b,x,y)=mkJ (fr a) (fr b) x y:=jof_in he
def pabs (A B:Tq) (x y:Bool):Ti:=
 if !x && decide (0≤sgn A.1 A.2.1) then (A,B,x,y) else if !y && decide (sgn B.1 B.2.1≤0) then (fneg B,fneg A,y,x) else ((false,0,1),qmax (fneg A) B,false,x || y)
theorem sabs_mk(A B:Tq)(x y:Bool):sabs (mkS A B x y)=mkS (pabs A B x y).1 (pabs A B x y).2.1 (pabs A B x y).2.2.1 (pabs A B x y).2.2.2:=by
 have el:(0≤esgn (mkS A B x y).1)↔(!x && decide (0≤sgn A.1 A.2.1))=true:=by
  cases x
  ·show 0≤sgn A.1 A.2.1↔(!false && decide (0≤sgn A.1 A.2.1))=true;simp
  ·show(0:Int)≤-1↔_;simp
 have eh:(esgn (mkS A B x y).2.1≤0)↔(!y && decide (sgn B.1 B.2.1≤0))=true:=by
  cases y
  ·show sgn B.1 B.2.1≤0↔(!false && decide (sgn B.1 B.2.1≤0))=true;simp
  ·show(1:Int)≤0↔_;simp
 unfold sabs pabs
 by_cases hl:0≤esgn (mkS A B x y).1
 ·rw[if_pos hl,if_pos (el.1 hl)]
 ·have hl':=Bool.eq_false_iff.2 (fun h=>hl (el.2 h));rw[if_neg hl,hl']
  by_cases hh:esgn (mkS A B x y).2.1≤0
  ·rw[if_pos hh,eh.1 hh]
   cases x<;>cases y<;>rfl
  ·have hh':=Bool.eq_false_iff.2 (fun h=>hh (eh.2 h));rw[if_neg hh,hh']
   cases x<;>cases y
   ·show((0,false,0,1),emax (0,fneg A) (0,B),false)=mkS (false,0,1) (qmax (fneg A) B) false false;rw[emax_fin];rfl
   all_goals rfl
def zrel (A:Tq) (x:Bool) (lo:Tq):Prop:=if x then lo=(false,0,0) else (lo=A∨(lo=(false,0,0)∧A=(false,0,1)))
theorem zrel.sgn{A lo:Tq}(h:zrel A false lo):sgn lo.1 lo.2.1=Go.Proofs.YtheojajaefjecaaGreatDoor.sgn A.1 A.2.1:=by
 rcases h with rfl | ⟨rfl,rfl⟩
 ·rfl
 ·rfl
theorem zrel.neg{A lo:Tq}{x:Bool}(h:zrel A x lo):zrel (fneg A) x (fneg lo):=by
 cases x
 ·rcases h with rfl | ⟨rfl,rfl⟩
  ·exact .inl rfl
  ·exact .inr ⟨rfl,rfl⟩
 ·have h:lo=(false,0,0):=h;subst h;rfl
theorem zrel.nz{A lo:Tq}(h:zrel A false lo)(hs:Go.Proofs.YtheojajaefjecaaGreatDoor.sgn A.1 A.2.1≠0):lo=A:=by
 rcases h with rfl | ⟨rfl,rfl⟩
 ·rfl
 ·exact absurd rfl hs
theorem jsize_z{A B lo hi:Tq}{x y:Bool}(h1:zrel A x lo)(h2:zrel B y hi):
  ∃lo' hi',jsize (lo,hi,x,y,false)=(lo',hi',(pabs A B x y).2.2.1,(pabs A B x y).2.2.2,false)∧zrel (pabs A B x y).1 (pabs A B x y).2.2.1 lo'∧zrel (pabs A B x y).2.1 (pabs A B x y).2.2.2 hi':=by
 have el:(!x && decide (0≤sgn lo.1 lo.2.1))=(!x && decide (0≤sgn A.1 A.2.1)):=by
  cases x
  ·rw[h1.sgn]
  ·rfl
 have eh:(!y && decide (sgn hi.1 hi.2.1≤0))=(!y && decide (sgn B.1 B.2.1≤0)):=by
  cases y
  ·rw[h2.sgn]
  ·rfl
 unfold pabs;cases c1:(!x && decide (0≤sgn A.1 A.2.1))
 ·rw[c1] at el;cases c2:(!y && decide (sgn B.1 B.2.1≤0))
  ·rw[c2] at eh;rw[jsize_mixed el eh]
   cases x<;>cases y
   ·have n1:sgn A.1 A.2.1≠0:=by
     intro h0;rw[h0] at c1;exact absurd c1 (by decide)
    have n2:sgn B.1 B.2.1≠0:=by
     intro h0;rw[h0] at c2;exact absurd c2 (by decide)
    rw[h1.nz n1,h2.nz n2];exact⟨_,_,rfl,.inr ⟨rfl,rfl⟩,.inl rfl⟩
   all_goals exact⟨_,_,rfl,.inr ⟨rfl,rfl⟩,rfl⟩
  ·rw[c2] at eh;rw[jsize_high el eh];exact⟨_,_,rfl,h2.neg,h1.neg⟩
 ·rw[c1] at el;rw[jsize_low el];exact⟨_,_,rfl,h1,h2⟩
def ppos (A B:Tq) (x y:Bool) (k:Nat):Ti:=
 if k % 2=0 then (fpow (pabs A B x y).1 k,fpow (pabs A B x y).2.1 k,(pabs A B x y).2.2.1,(pabs A B x y).2.2.2) else (fpow A k,fpow B k,x,y)
theorem epw_mk{A B:Tq}{x y:Bool}(k:Nat):(epw (mkS A B x y).1 k,epw (mkS A B x y).2.1 k,false)=mkS (fpow A k) (fpow B k) x y:=by
 cases x<;>cases y<;>rfl
theorem spos_mk(A B:Tq)(x y:Bool)(k:Nat):spos (mkS A B x y) k=mkS (ppos A B x y k).1 (ppos A B x y k).2.1 (ppos A B x y k).2.2.1 (ppos A B x y k).2.2.2:=by
 unfold spos ppos
 by_cases h:k % 2=0
 ·rw[if_pos h,if_pos h,sabs_mk];exact epw_mk k
 ·rw[if_neg h,if_neg h];exact epw_mk k
def pinv (A B:Tq) (x y:Bool):Tq×(Tq):=(if y then (false,0,1) else frinv B,if x then (false,0,1) else frinv A)
theorem sinv_mk(A B:Tq)(x y:Bool):sinv (mkS A B x y)=mkS (pinv A B x y).1 (pinv A B x y).2 false false:=by
 cases x<;>cases y<;>rfl
def pord (A B:Tq) (x y:Bool):Prop:=(x=false→IsFr A)∧(y=false→IsFr B)∧(x=false→y=false→fcmp A B≤0)
theorem FQ.selfP{a:Tq}(h:0 < a.2.2):FQ a (sv a.1 a.2.1) (a.2.2:Int):=⟨by omega,h,rfl⟩
theorem sgn_nn{A:Tq}(h:0≤sgn A.1 A.2.1):A.1=false:=by
 unfold sgn at h;cases hs:A.1
 ·rfl
 ·rw[hs,if_pos rfl] at h;exact absurd h (by decide)
theorem fneg_nn{B:Tq}(h:sgn B.1 B.2.1≤0):(fneg B).1=false:=by
 show(!B.1 && decide (B.2.1≠0))=false;unfold sgn at h;cases hs:B.1
 ·rw[hs,if_neg (by decide)] at h
  split at h
  case isTrue h0=>rw[h0];rfl
  ·exact absurd h (by decide)
 ·rfl
theorem IsFr.opp{t:Tq}(h:IsFr t):IsFr (fneg t):=by
 obtain⟨s,n,d,hd,rfl⟩:=h;refine⟨!s,n,d,hd,?_⟩;have hg:0 < Nat.gcd n d:=Nat.gcd_pos_of_pos_right _ hd
 have e:(n / Nat.gcd n d=0)↔n=0:=by
  constructor
  ·intro h0;have h1:=Nat.div_mul_cancel (Nat.gcd_dvd_left n d);rw[h0] at h1;omega
  ·intro h0;rw[h0];exact Nat.zero_div _
 unfold fneg frac
 by_cases h0:n=0
 ·simp [h0]
 ·have h1:n / Nat.gcd n d≠0:=fun h=>h0 (e.1 h)
  simp [h0,h1]
theorem qmax_fr{s t:Tq}(hs:IsFr s)(ht:IsFr t):IsFr (qmax s t):=by unfold qmax;split<;>assumption
theorem pabs_ord{A B:Tq}{x y:Bool}(h:pord A B x y):pord (pabs A B x y).1 (pabs A B x y).2.1 (pabs A B x y).2.2.1 (pabs A B x y).2.2.2∧((pabs A B x y).2.2.1=false→(pabs A B x y).1.1=false)∧(pabs A B x y).2.2.1=false:=by
 obtain⟨h1,h2,h3⟩:=h;unfold pabs;cases c1:(!x && decide (0≤sgn A.1 A.2.1))
 ·cases c2:(!y && decide (sgn B.1 B.2.1≤0))
  ·refine⟨⟨fun _=>isFr_zero,?_,?_⟩,fun _=>rfl,rfl⟩
   ·intro hxy;have hxy:(x || y)=false:=hxy;rw[Bool.or_eq_false_iff] at hxy;exact qmax_fr (h1 hxy.1).opp (h2 hxy.2)
   ·intro _ hxy;have hxy:(x || y)=false:=hxy;rw[Bool.or_eq_false_iff] at hxy;show fcmp (false,0,1) (qmax (fneg A) B)≤0;rw[hxy.2] at c2;have c3:decide (sgn B.1 B.2.1≤0)=false:=c2;have c4:=of_decide_eq_false c3
    have hB:0≤sv B.1 B.2.1:=by have:=sv_pos (t:=B) (by omega);omega
    unfold qmax
    split
    ·exact fcmp_zero_le hB
    ·rw[hxy.1] at c1;have c5:decide (0≤sgn A.1 A.2.1)=false:=c1;exact fcmp_zero_le (sv_nonneg (of_decide_eq_false c5))
  ·rw[Bool.and_eq_true] at c2
   have hy:y=false:=by revert c2;cases y<;>simp
   refine⟨⟨fun hh=>(h2 hh).opp,fun hh=>(h1 hh).opp,fun ha hb=>fcmp_neg (h3 hb ha)⟩,fun _=>fneg_nn (of_decide_eq_true c2.2),hy⟩
 ·rw[Bool.and_eq_true] at c1
  have hx:x=false:=by revert c1;cases x<;>simp
  exact⟨⟨h1,h2,h3⟩,fun _=>sgn_nn (of_decide_eq_true c1.2),hx⟩
theorem fpow_mono{a b:Tq}{k:Nat}(ha:IsFr a)(hb:IsFr b)(h:fcmp a b≤0)(hk:k % 2=1∨a.1=false):fcmp (fpow a k) (fpow b k)≤0:=by
 rw[fcmp_nonpos] at h ⊢;have pa:=ha.pos;have pb:=hb.pos;have zb:=hb.zs;have e1:((a.2.1*b.2.2:Nat):Int)=(a.2.1:Int)*(b.2.2:Int):=Int.natCast_mul _ _;have e2:((b.2.1*a.2.2:Nat):Int)=(b.2.1:Int)*(a.2.2:Int):=Int.natCast_mul _ _;have e3:((a.2.1 ^ k*b.2.2 ^ k:Nat):Int)=((a.2.1 ^ k:Nat):Int)*((b.2.2 ^ k:Nat):Int):=Int.natCast_mul _ _;have e4:((b.2.1 ^ k*a.2.2 ^ k:Nat):Int)=((b.2.1 ^ k:Nat):Int)*((a.2.2 ^ k:Nat):Int):=Int.natCast_mul _ _
 have m1:a.2.1*b.2.2≤b.2.1*a.2.2→a.2.1 ^ k*b.2.2 ^ k≤b.2.1 ^ k*a.2.2 ^ k:=by
  intro hh;rw[←Nat.mul_pow,←Nat.mul_pow];exact Nat.pow_le_pow_left hh k
 have m2:b.2.1*a.2.2≤a.2.1*b.2.2→b.2.1 ^ k*a.2.2 ^ k≤a.2.1 ^ k*b.2.2 ^ k:=by
  intro hh;rw[←Nat.mul_pow,←Nat.mul_pow];exact Nat.pow_le_pow_left hh k
 show sv (a.1 && decide (k % 2=1)) (a.2.1 ^ k)*((b.2.2 ^ k:Nat):Int)≤sv (b.1 && decide (k % 2=1)) (b.2.1 ^ k)*((a.2.2 ^ k:Nat):Int)
 cases hsa:a.1<;>cases hsb:b.1<;>rw[hsa,hsb] at h<;>unfold sv at h ⊢<;>simp only[Bool.false_and,Bool.true_and,Bool.false_eq_true,if_false,if_true,Int.neg_mul] at h ⊢
 ·have:=m1 (by omega);omega
 ·exfalso
  have h0:b.2.1*a.2.2=0:=by omega
  rcases Nat.mul_eq_zero.1 h0 with h1 | h1
  ·exact absurd (hsb.symm.trans (zb h1)) (by decide)
  ·omega
 ·rcases hk with hk | hk
  ·rw[decide_eq_true hk];simp only[if_true,Int.neg_mul];omega
  ·exact absurd (hsa.symm.trans hk) (by decide)
 ·rcases hk with hk | hk
  ·rw[decide_eq_true hk];simp only[if_true,Int.neg_mul];have:=m2 (by omega);omega
  ·exact absurd (hsa.symm.trans hk) (by decide)
theorem ppos_ord{A B:Tq}{x y:Bool}{k:Nat}(h:pord A B x y):pord (ppos A B x y k).1 (ppos A B x y k).2.1 (ppos A B x y k).2.2.1 (ppos A B x y k).2.2.2:=by
 unfold ppos
 by_cases hk:k % 2=0
 ·rw[if_pos hk];obtain⟨⟨p1,p2,p3⟩,p4,_⟩:=pabs_ord h;exact⟨fun hx=>(p1 hx).pow k,fun hy=>(p2 hy).pow k,fun hx hy=>fpow_mono (p1 hx) (p2 hy) (p3 hx hy) (.inr (p4 hx))⟩
 ·rw[if_neg hk];exact⟨fun hx=>(h.1 hx).pow k,fun hy=>(h.2.1 hy).pow k,fun hx hy=>fpow_mono (h.1 hx) (h.2.1 hy) (h.2.2 hx hy) (.inl (by omega))⟩
def pside (A B:Tq) (x y:Bool):Prop:=(x=false∧0 < sgn A.1 A.2.1)∨(y=false∧sgn B.1 B.2.1 < 0)
theorem sgn_ps{A:Tq}(h:0 < sgn A.1 A.2.1):A.1=false∧A.2.1≠0:=by
 unfold sgn at h;cases hs:A.1
 ·rw[hs,if_neg (by decide)] at h
  split at h
  ·exact absurd h (by decide)
  case isFalse h0=>exact⟨rfl,h0⟩
 ·rw[hs,if_pos rfl] at h;exact absurd h (by decide)
theorem sgn_ng{A:Tq}(h:sgn A.1 A.2.1 < 0):A.1=true:=by
 unfold sgn at h;cases hs:A.1
 ·rw[hs,if_neg (by decide)] at h
  split at h
  ·exact absurd h (by decide)
  ·exact absurd h (by decide)
 ·rfl
theorem frinv_fr{t:Tq}(h:t.2.1≠0):IsFr (frinv t):=⟨_,_,_,Nat.pos_of_ne_zero h,rfl⟩
theorem frinv_sv{t:Tq}(h:t.2.1≠0):FQ (frinv t) (sv t.1 t.2.2) (t.2.1:Int):=frac_FQ (Nat.pos_of_ne_zero h) (by omega) rfl
theorem pside_nz{A B:Tq}{x y:Bool}(h:pord A B x y)(hs:pside A B x y):(x=false→A.2.1≠0)∧(y=false→B.2.1≠0)∧(x=false→y=false→A.1=B.1)∧(x=true→B.1=true)∧(y=true→A.1=false):=by
 rcases hs with ⟨hx,hs⟩ | ⟨hy,hs⟩
 ·have k:=sgn_ps hs
  have kB:y=false→0 < sgn B.1 B.2.1:=by
   intro hy;have:=sgn_mono (h.1 hx) (h.2.1 hy) (h.2.2 hx hy);omega
  exact⟨fun _=>k.2,fun hy=>(sgn_ps (kB hy)).2,fun _ hy=>k.1.trans (sgn_ps (kB hy)).1.symm,fun h=>absurd (hx.symm.trans h) (by decide),fun _=>k.1⟩
 ·have k:=sgn_ng hs
  have nz:∀{t:Tq},IsFr t→sgn t.1 t.2.1 < 0→t.2.1≠0:=by
   intro t ht hs h0;exact absurd ((sgn_ng hs).symm.trans (ht.zs h0)) (by decide)
  have kA:x=false→sgn A.1 A.2.1 < 0:=by
   intro hx;have:=sgn_mono (h.1 hx) (h.2.1 hy) (h.2.2 hx hy);omega
  exact⟨fun hx=>nz (h.1 hx) (kA hx),fun _=>nz (h.2.1 hy) hs,fun hx _=>(sgn_ng (kA hx)).trans k.symm,fun _=>k,fun h=>absurd (hy.symm.trans h) (by decide)⟩
theorem pinv_ord{A B:Tq}{x y:Bool}(h:pord A B x y)(hs:pside A B x y):pord (pinv A B x y).1 (pinv A B x y).2 false false:=by
 obtain⟨nA,nB,sAB,sX,sY⟩:=pside_nz h hs;unfold pinv;refine⟨fun _=>?_,fun _=>?_,fun _ _=>?_⟩
 ·cases y
  ·exact frinv_fr (nB rfl)
  ·exact isFr_zero
 ·cases x
  ·exact frinv_fr (nA rfl)
  ·exact isFr_zero
 ·cases x<;>cases y
  ·show fcmp (frinv B) (frinv A)≤0;have hle:=h.2.2 rfl rfl
   have qA:(0:Int) < (A.2.1:Int):=by have:=nA rfl;omega
   have qB:(0:Int) < (B.2.1:Int):=by have:=nB rfl;omega
   rw[fcmp_nonpos] at hle;rw[fcmp_Q (frinv_sv (nB rfl)) (frinv_sv (nA rfl)) qB qA,cmpI_nonpos];have e1:((A.2.1*B.2.2:Nat):Int)=(A.2.1:Int)*(B.2.2:Int):=Int.natCast_mul _ _;have e2:((B.2.1*A.2.2:Nat):Int)=(B.2.1:Int)*(A.2.2:Int):=Int.natCast_mul _ _;have e3:(B.2.2:Int)*(A.2.1:Int)=(A.2.1:Int)*(B.2.2:Int):=Int.mul_comm _ _;have e4:(A.2.2:Int)*(B.2.1:Int)=(B.2.1:Int)*(A.2.2:Int):=Int.mul_comm _ _;rw[sAB rfl rfl] at hle ⊢
   cases hb:B.1<;>rw[hb] at hle<;>unfold sv at hle ⊢<;>simp only[Bool.false_eq_true,if_false,if_true,Int.neg_mul] at hle ⊢<;>omega
  ·show fcmp (false,0,1) (frinv A)≤0;rw[fcmp_Q (FQ.selfP (by decide)) (frinv_sv (nA rfl)) (by decide) (by have:=nA rfl;omega),cmpI_nonpos,sY rfl];unfold sv;simp only[Bool.false_eq_true,if_false];show(0:Int)*_≤_;rw[Int.zero_mul];omega
  ·show fcmp (frinv B) (false,0,1)≤0;rw[fcmp_Q (frinv_sv (nB rfl)) (FQ.selfP (by decide)) (by have:=nB rfl;omega) (by decide),cmpI_nonpos,sX rfl];unfold sv;simp only[Bool.false_eq_true,if_false,if_true];show - (B.2.2:Int)*1≤0*_;rw[Int.zero_mul];omega
  ·show fcmp (false,0,1) (false,0,1)≤0;decide+kernel
theorem szero_mk{A B:Tq}{x y:Bool}:szero (mkS A B x y)=false→pside A B x y:=by
 intro h;unfold szero at h;rw[Bool.and_eq_false_iff] at h
 rcases h with h | h
 ·have h:=of_decide_eq_false h;cases x
  ·have h:¬sgn A.1 A.2.1≤0:=h;exact .inl ⟨rfl,by omega⟩
  ·exact absurd (show(-1:Int)≤0 by decide) h
 ·have h:=of_decide_eq_false h;cases y
  ·have h:¬0≤sgn B.1 B.2.1:=h;exact .inr ⟨rfl,by omega⟩
  ·exact absurd (show(0:Int)≤1 by decide) h
theorem srd_ord{a b:Tq}{x y:Bool}(he:(srd (a,b,x,y)).2.2=false):pord (fr a) (fr b) x y:=by
 refine⟨fun _=>IsFr.fr a,fun _=>IsFr.fr b,?_⟩;intro hx hy;subst hx hy;have hle:decide (0 < ecmp (rdE false (-1) a) (rdE false 1 b))=false:=he;have hle:=of_decide_eq_false hle
 have e3:ecmp (rdE false (-1) a) (rdE false 1 b)=fcmp (fr a) (fr b):=by show ecmp (0,fr a) (0,fr b)=_;unfold ecmp;simp
 omega
theorem pord.fr{A B:Tq}{x y:Bool}(h:pord A B x y):JFr (mkJ A B x y):=by
 obtain⟨h1,h2,h3⟩:=h;refine⟨rfl,?_,?_,?_⟩
 ·cases x
  ·exact .inr ⟨rfl,h1 rfl⟩
  ·exact .inl ⟨rfl,rfl⟩
 ·cases y
  ·exact .inr ⟨rfl,h2 rfl⟩
  ·exact .inl ⟨rfl,rfl⟩
 ·intro hx hy;have hx:x=false:=hx;have hy:y=false:=hy;subst hx hy;exact h3 rfl rfl
end Go.Proofs.YtheojajaefjecaaGreatDoor
