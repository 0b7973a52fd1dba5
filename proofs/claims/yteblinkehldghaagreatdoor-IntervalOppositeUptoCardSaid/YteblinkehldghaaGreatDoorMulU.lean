/- Products of ends: the order, signs, opposites; the least and the greatest of the four products of two sets. -/
import Derived.Test.YteblinkehldghaaGreatDoorMulJ
import Derived.Test.YteblinkehldghaaGreatDoorPwiQ
import Derived.Test.YteblinkehldghaaGreatDoorMulT
namespace Go.Proofs.YteblinkehldghaaGreatDoor
open Go.RowKit Dg
def EF (x:Int×Tq):Prop:=(∃t,IsFr t∧x=(0,t))∨x=(1,false,0,0)∨x=(-1,false,0,0)
def ele (x y:Int×Tq):Prop:=ecmp x y≤0
theorem EOk.ef{k:Nat}{x:Int×Tq}(h:EOk k x):EF x:=by
 obtain⟨i,t⟩:=x
 by_cases h0:i=0
 ·subst h0;exact .inl ⟨t,h.fin rfl,rfl⟩
 ·obtain⟨h1,h2⟩:=h.inf h0;have h2:t=(false,0,0):=h2;subst h2
  rcases h1 with h1 | h1
  ·have h1:i=1:=h1;subst h1;exact .inr (.inl rfl)
  ·have h1:i=-1:=h1;subst h1;exact .inr (.inr rfl)
theorem ele_fin{a b:Tq}:ele (0,a) (0,b)↔fcmp a b≤0:=by unfold ele;rw[ecmp_fin]
theorem fcmp_self(a:Tq):fcmp a a≤0:=by rw[fcmp_nonpos];exact Int.le_refl _
theorem fcmp_trn{a b c:Tq}(hb:0 < b.2.2)(ha:0 < a.2.2)(hc:0 < c.2.2)(h:fcmp a b≤0)(h':fcmp b c≤0):fcmp a c≤0:=by
 rw[fcmp_nonpos] at h h' ⊢
 have kb:(0:Int) < (b.2.2:Int):=by omega
 have ka:(0:Int)≤(a.2.2:Int):=by omega
 have kc:(0:Int)≤(c.2.2:Int):=by omega
 have h1:=Int.mul_le_mul_of_nonneg_right h kc;have h2:=Int.mul_le_mul_of_nonneg_right h' ka;refine Int.le_of_mul_le_mul_right ?_ kb
 calc sv a.1 a.2.1*(c.2.2:Int)*(b.2.2:Int)=sv a.1 a.2.1*(b.2.2:Int)*(c.2.2:Int):=by grind
  _≤sv b.1 b.2.1*(a.2.2:Int)*(c.2.2:Int):=h1
  _=sv b.1 b.2.1*(c.2.2:Int)*(a.2.2:Int):=by grind
  _≤sv c.1 c.2.1*(b.2.2:Int)*(a.2.2:Int):=h2
  _=sv c.1 c.2.1*(a.2.2:Int)*(b.2.2:Int):=by grind
theorem fcmp_tot(a b:Tq):fcmp a b≤0∨fcmp b a≤0:=by
 rw[fcmp_nonpos,fcmp_nonpos];exact Int.le_total _ _
theorem ele_mI{x:Int×Tq}(h:EF x):ele (-1,false,0,0) x:=by
 rcases h with ⟨t,_,rfl⟩ | rfl | rfl
 ·show(-1:Int)≤0;decide
 ·show(-1:Int)≤0;decide
 ·show(0:Int)≤0;decide
theorem ele_pI{x:Int×Tq}(h:EF x):ele x (1,false,0,0):=by
 rcases h with ⟨t,_,rfl⟩ | rfl | rfl
 ·show(-1:Int)≤0;decide
 ·show(0:Int)≤0;decide
 ·show(-1:Int)≤0;decide
theorem pI_ele{x:Int×Tq}(h:EF x)(hl:ele (1,false,0,0) x):x=(1,false,0,0):=by
 rcases h with ⟨t,_,rfl⟩ | rfl | rfl
 ·exact absurd (show(1:Int)≤0 from hl) (by decide)
 ·rfl
 ·exact absurd (show(1:Int)≤0 from hl) (by decide)
theorem ele_mI_eq{x:Int×Tq}(h:EF x)(hl:ele x (-1,false,0,0)):x=(-1,false,0,0):=by
 rcases h with ⟨t,_,rfl⟩ | rfl | rfl
 ·exact absurd (show(1:Int)≤0 from hl) (by decide)
 ·exact absurd (show(1:Int)≤0 from hl) (by decide)
 ·rfl
theorem ele_refl{x:Int×Tq}(h:EF x):ele x x:=by
 rcases h with ⟨t,_,rfl⟩ | rfl | rfl
 ·exact ele_fin.2 (fcmp_self t)
 ·show(0:Int)≤0;decide
 ·show(0:Int)≤0;decide
theorem ele_trans{x y z:Int×Tq}(hx:EF x)(hy:EF y)(hz:EF z)(h:ele x y)(h':ele y z):ele x z:=by
 rcases hy with ⟨t,ht,rfl⟩ | rfl | rfl
 ·rcases hx with ⟨s,hs,rfl⟩ | rfl | rfl
  ·rcases hz with ⟨u,hu,rfl⟩ | rfl | rfl
   ·exact ele_fin.2 (fcmp_trn ht.pos hs.pos hu.pos (ele_fin.1 h) (ele_fin.1 h'))
   ·exact ele_pI (.inl ⟨s,hs,rfl⟩)
   ·exact absurd (show(1:Int)≤0 from h') (by decide)
  ·exact absurd (show(1:Int)≤0 from h) (by decide)
  ·exact ele_mI hz
 ·have:=pI_ele hz h';subst this;exact ele_pI hx
 ·have:=ele_mI_eq hx h;subst this;exact ele_mI hz
theorem ele_anti{x y:Int×Tq}(hx:EF x)(hy:EF y)(h:ele x y)(h':ele y x):x=y:=by
 rcases hx with ⟨s,hs,rfl⟩ | rfl | rfl
 ·rcases hy with ⟨t,ht,rfl⟩ | rfl | rfl
  ·have h1:=ele_fin.1 h;have h2:=ele_fin.1 h';rw[fcmp_nonpos] at h1 h2
   have:fcmp s t=0:=by
    unfold fcmp cmpI;rw[if_neg (by omega),if_neg (by omega)]
   rw[(fcmp_zero_iff hs ht).1 this]
  ·exact absurd (show(1:Int)≤0 from h') (by decide)
  ·exact absurd (show(1:Int)≤0 from h) (by decide)
 ·exact(pI_ele hy h).symm
 ·exact(ele_mI_eq hy h').symm
theorem ele_total{x y:Int×Tq}(hx:EF x)(hy:EF y):ele x y∨ele y x:=by
 rcases hx with ⟨s,hs,rfl⟩ | rfl | rfl
 ·rcases hy with ⟨t,ht,rfl⟩ | rfl | rfl
  ·rw[ele_fin,ele_fin];exact fcmp_tot s t
  ·exact .inl (ele_pI (.inl ⟨s,hs,rfl⟩))
  ·exact .inr (ele_mI (.inl ⟨s,hs,rfl⟩))
 ·exact .inr (ele_pI hy)
 ·exact .inl (ele_mI hy)
def eis (g:Int):Int×Tq:=if g=0 then (0,false,0,1) else (g,false,0,0)
theorem sgn3(t:Tq):sgn t.1 t.2.1=-1∨sgn t.1 t.2.1=0∨sgn t.1 t.2.1=1:=by
 unfold sgn
 split
 ·exact .inl rfl
 ·split
  ·exact .inr (.inl rfl)
  ·exact .inr (.inr rfl)
theorem EF.s3{x:Int×Tq}(h:EF x):esgn x=-1∨esgn x=0∨esgn x=1:=by
 rcases h with ⟨t,_,rfl⟩ | rfl | rfl
 ·exact sgn3 t
 ·exact .inr (.inr rfl)
 ·exact .inl rfl
theorem fmul_zero{a b:Tq}(ha:0 < a.2.2)(hb:0 < b.2.2)(h:a.2.1=0∨b.2.1=0):fmul a b=(false,0,1):=by
 have h0:a.2.1*b.2.1=0:=by rcases h with h | h<;>rw[h];exact Nat.zero_mul _;exact Nat.mul_zero _
 have hd:0 < a.2.2*b.2.2:=Nat.mul_pos ha hb;unfold fmul frac;rw[h0,Nat.gcd_zero_left,Nat.div_self hd,Nat.zero_div];simp
theorem sgn_z{t:Tq}(h:sgn t.1 t.2.1=0):t.2.1=0:=by
 unfold sgn at h
 split at h
 ·exact absurd h (by decide)
 ·split at h
  case isTrue h0=>exact h0
  ·exact absurd h (by decide)
theorem etm_fin{a b:Tq}(ha:IsFr a)(hb:IsFr b):etm (0,a) (0,b)=(0,fmul a b):=by
 have e:etm (0,a) (0,b)=if sgn a.1 a.2.1*sgn b.1 b.2.1=0 then (0,false,0,1) else (0,fmul a b):=rfl
 rw[e]
 split
 case isTrue h=>
  have h2:a.2.1=0∨b.2.1=0:=by
   rcases Int.mul_eq_zero.1 h with h | h
   ·exact .inl (sgn_z h)
   ·exact .inr (sgn_z h)
  rw[fmul_zero ha.pos hb.pos h2]
 ·rfl
theorem etm_inf{x y:Int×Tq}(h:x.1≠0∨y.1≠0):etm x y=eis (esgn x*esgn y):=by
 unfold etm eis
 split
 ·rfl
 ·rfl
theorem eis_ef{g:Int}(h:g=-1∨g=0∨g=1):EF (eis g):=by
 rcases h with rfl | rfl | rfl
 ·exact .inr (.inr rfl)
 ·exact .inl ⟨_,isFr_zero,rfl⟩
 ·exact .inr (.inl rfl)
theorem mul3{g h:Int}(hg:g=-1∨g=0∨g=1)(hh:h=-1∨h=0∨h=1):g*h=-1∨g*h=0∨g*h=1:=by
 rcases hg with rfl | rfl | rfl<;>rcases hh with rfl | rfl | rfl<;>decide
theorem EF.times{x y:Int×Tq}(hx:EF x)(hy:EF y):EF (etm x y):=by
 by_cases h:x.1≠0∨y.1≠0
 ·rw[etm_inf h];exact eis_ef (mul3 hx.s3 hy.s3)
 ·rcases hx with ⟨a,ha,rfl⟩ | rfl | rfl
  ·rcases hy with ⟨b,hb,rfl⟩ | rfl | rfl
   ·rw[etm_fin ha hb];exact .inl ⟨_,IsFr.mul ha.pos hb.pos,rfl⟩
   ·exact absurd (.inr (by decide)) h
   ·exact absurd (.inr (by decide)) h
  ·exact absurd (.inl (by decide)) h
  ·exact absurd (.inl (by decide)) h
theorem eis_mono{g h:Int}(hg:g=-1∨g=0∨g=1)(hh:h=-1∨h=0∨h=1)(hl:g≤h):ele (eis g) (eis h):=by
 rcases hg with rfl | rfl | rfl
 ·exact ele_mI (eis_ef hh)
 ·rcases hh with rfl | rfl | rfl
  ·exact absurd hl (by decide)
  ·exact ele_refl (eis_ef (.inr (.inl rfl)))
  ·exact ele_pI (eis_ef (.inr (.inl rfl)))
 ·rcases hh with rfl | rfl | rfl
  ·exact absurd hl (by decide)
  ·exact absurd hl (by decide)
  ·exact ele_refl (eis_ef (.inr (.inr rfl)))
theorem esgn_mono{x y:Int×Tq}(hx:EF x)(hy:EF y)(h:ele x y):esgn x≤esgn y:=by
 rcases hx with ⟨s,hs,rfl⟩ | rfl | rfl
 ·rcases hy with ⟨t,ht,rfl⟩ | rfl | rfl
  ·exact sgn_mono hs ht (ele_fin.1 h)
  ·have:esgn (0,s)=-1∨esgn (0,s)=0∨esgn (0,s)=1:=sgn3 s;have e:esgn (1,false,0,0)=1:=rfl;omega
  ·exact absurd (show(1:Int)≤0 from h) (by decide)
 ·rw[pI_ele hy h];exact Int.le_refl _
 ·have:=hy.s3;have e:esgn (-1,false,0,0)=-1:=rfl;omega
theorem etm_comm(x y:Int×Tq):etm x y=etm y x:=by
 have e:fmul x.2 y.2=fmul y.2 x.2:=by
  unfold fmul;rw[Nat.mul_comm x.2.2.1,Nat.mul_comm x.2.2.2,bne_comm]
 unfold etm;rw[Int.mul_comm,e]
 split
 ·rfl
 ·by_cases h:x.1≠0∨y.1≠0
  ·rw[if_pos h,if_pos h.symm]
  ·rw[if_neg h,if_neg (fun k=>h k.symm)]
theorem sgn_fnegM{t:Tq}(h:IsFr t):sgn (fneg t).1 (fneg t).2.1=- sgn t.1 t.2.1:=by
 have hz:=h.zs;unfold sgn fneg;cases hs:t.1
 ·by_cases h0:t.2.1=0
  ·simp [h0]
  ·simp [h0]
 ·have h0:t.2.1≠0:=fun h1=>absurd (hs.symm.trans (hz h1)) (by decide)
  simp [h0]
theorem EF.neg{x:Int×Tq}(h:EF x):EF (eneg x):=by
 rcases h with ⟨t,ht,rfl⟩ | rfl | rfl
 ·exact .inl ⟨_,ht.opp,rfl⟩
 ·exact .inr (.inr rfl)
 ·exact .inr (.inl rfl)
theorem esgn_neg{x:Int×Tq}(h:EF x):esgn (eneg x)=- esgn x:=by
 rcases h with ⟨t,ht,rfl⟩ | rfl | rfl
 ·exact sgn_fnegM ht
 ·rfl
 ·rfl
theorem fneg_two{t:Tq}(h:IsFr t):fneg (fneg t)=t:=by
 have hz:=h.zs;obtain⟨s,n,d⟩:=t;unfold fneg
 by_cases h0:n=0
 ·have:s=false:=hz h0;subst h0 this;rfl
 ·simp [h0]
theorem eneg_two{x:Int×Tq}(h:EF x):eneg (eneg x)=x:=by
 rcases h with ⟨t,ht,rfl⟩ | rfl | rfl
 ·show(0,fneg (fneg t))=_;rw[fneg_two ht]
 ·rfl
 ·rfl
theorem ele_neg{x y:Int×Tq}(hx:EF x)(hy:EF y)(h:ele x y):ele (eneg y) (eneg x):=by
 rcases hx with ⟨s,hs,rfl⟩ | rfl | rfl
 ·rcases hy with ⟨t,ht,rfl⟩ | rfl | rfl
  ·exact ele_fin.2 (fcmp_neg (ele_fin.1 h))
  ·exact ele_mI (.inl ⟨_,hs.opp,rfl⟩)
  ·exact absurd (show(1:Int)≤0 from h) (by decide)
 ·rw[pI_ele hy h];exact ele_refl (.inr (.inr rfl))
 ·exact ele_pI hy.neg
theorem fmul_neg{a b:Tq}(ha:IsFr a)(hb:IsFr b):fmul (fneg a) b=fneg (fmul a b):=by
 have fa:=FQ.selfP ha.pos;have fb:=FQ.selfP hb.pos;have h1:=fmul_FQ (fneg_FQ fa) fb;have h2:=fneg_FQ (fmul_FQ fa fb);have q:(0:Int) < (a.2.2:Int)*(b.2.2:Int):=Int.mul_pos (by have:=ha.pos;omega) (by have:=hb.pos;omega);rw[Int.neg_mul] at h1;exact fr_unique (IsFr.mul ha.opp.pos hb.pos) (IsFr.mul ha.pos hb.pos).opp h1 h2 q
theorem eis_neg{g:Int}(h:g=-1∨g=0∨g=1):eis (-g)=eneg (eis g):=by
 rcases h with rfl | rfl | rfl<;>rfl
theorem eneg_inf{x:Int×Tq}(h:x.1≠0):(eneg x).1≠0:=by
 unfold eneg;rw[if_neg h];show -x.1≠0;omega
theorem etm_neg{x y:Int×Tq}(hx:EF x)(hy:EF y):etm (eneg x) y=eneg (etm x y):=by
 by_cases h:x.1≠0∨y.1≠0
 ·have h':(eneg x).1≠0∨y.1≠0:=by
   rcases h with h | h
   ·exact .inl (eneg_inf h)
   ·exact .inr h
  rw[etm_inf h,etm_inf h',esgn_neg hx,Int.neg_mul,eis_neg (mul3 hx.s3 hy.s3)]
 ·rcases hx with ⟨a,ha,rfl⟩ | rfl | rfl
  ·rcases hy with ⟨b,hb,rfl⟩ | rfl | rfl
   ·show etm (0,fneg a) (0,b)=_;rw[etm_fin ha hb,etm_fin ha.opp hb,fmul_neg ha hb];rfl
   ·exact absurd (.inr (by decide)) h
   ·exact absurd (.inr (by decide)) h
  ·exact absurd (.inl (by decide)) h
  ·exact absurd (.inl (by decide)) h
theorem fmul_mono{t a b:Tq}(ht:IsFr t)(ha:IsFr a)(hb:IsFr b)(h0:0≤sgn t.1 t.2.1)(h:fcmp a b≤0):fcmp (fmul t a) (fmul t b)≤0:=by
 have ft:=FQ.selfP ht.pos;have fa:=FQ.selfP ha.pos;have fb:=FQ.selfP hb.pos
 have pt:(0:Int) < (t.2.2:Int):=by have:=ht.pos;omega
 have pa:(0:Int) < (a.2.2:Int):=by have:=ha.pos;omega
 have pb:(0:Int) < (b.2.2:Int):=by have:=hb.pos;omega
 rw[fcmp_Q (fmul_FQ ft fa) (fmul_FQ ft fb) (Int.mul_pos pt pa) (Int.mul_pos pt pb),cmpI_nonpos];rw[fcmp_nonpos] at h
 have hs:0≤sv t.1 t.2.1:=by
  unfold sv;rw[sgn_nn h0];simp
 have:=Int.mul_le_mul_of_nonneg_left h (Int.mul_nonneg hs (Int.le_of_lt pt))
 calc sv t.1 t.2.1*sv a.1 a.2.1*((t.2.2:Int)*(b.2.2:Int))=sv t.1 t.2.1*(t.2.2:Int)*(sv a.1 a.2.1*(b.2.2:Int)):=by grind
  _≤sv t.1 t.2.1*(t.2.2:Int)*(sv b.1 b.2.1*(a.2.2:Int)):=this
  _=sv t.1 t.2.1*sv b.1 b.2.1*((t.2.2:Int)*(a.2.2:Int)):=by grind
theorem etm_mono{x a b:Int×Tq}(hx:EF x)(ha:EF a)(hb:EF b)(h0:0≤esgn x)(h:ele a b):ele (etm x a) (etm x b):=by
 have hm:=esgn_mono ha hb h
 by_cases hi:x.1=0
 ·rcases hx with ⟨t,ht,rfl⟩ | rfl | rfl
  ·have h0:0≤sgn t.1 t.2.1:=h0
   rcases ha with ⟨s,hs,rfl⟩ | rfl | rfl
   ·rcases hb with ⟨u,hu,rfl⟩ | rfl | rfl
    ·rw[etm_fin ht hs,etm_fin ht hu];exact ele_fin.2 (fmul_mono ht hs hu h0 (ele_fin.1 h))
    ·rw[etm_inf (y:=(1,false,0,0)) (.inr (by decide))]
     rcases sgn3 t with e | e | e
     ·omega
     ·have e1:esgn ((0,t):Int×Tq)=0:=e;rw[e1,Int.zero_mul,etm_fin ht hs,fmul_zero ht.pos hs.pos (.inl (sgn_z e))];exact ele_refl (.inl ⟨_,isFr_zero,rfl⟩)
     ·have e1:esgn ((0,t):Int×Tq)=1:=e;rw[e1];exact ele_pI (EF.times (.inl ⟨t,ht,rfl⟩) (.inl ⟨s,hs,rfl⟩))
    ·exact absurd (show(1:Int)≤0 from h) (by decide)
   ·rw[pI_ele hb h];exact ele_refl (EF.times (.inl ⟨t,ht,rfl⟩) (.inr (.inl rfl)))
   ·rw[etm_inf (y:=(-1,false,0,0)) (.inr (by decide))]
    rcases sgn3 t with e | e | e
    ·omega
    ·have e1:esgn ((0,t):Int×Tq)=0:=e;rw[e1,Int.zero_mul]
     have e2:etm (0,t) b=(0,false,0,1):=by unfold etm;rw[e1,Int.zero_mul,if_pos rfl]
     rw[e2];exact ele_refl (.inl ⟨_,isFr_zero,rfl⟩)
    ·have e1:esgn ((0,t):Int×Tq)=1:=e;rw[e1];exact ele_mI (EF.times (.inl ⟨t,ht,rfl⟩) hb)
  ·exact absurd hi (by decide)
  ·exact absurd hi (by decide)
 ·rw[etm_inf (.inl hi),etm_inf (.inl hi)];refine eis_mono (mul3 hx.s3 ha.s3) (mul3 hx.s3 hb.s3) ?_;exact Int.mul_le_mul_of_nonneg_left hm h0
theorem etm_mono'{x a b:Int×Tq}(hx:EF x)(ha:EF a)(hb:EF b)(h0:0≤esgn x)(h:ele a b):ele (etm a x) (etm b x):=by
 rw[etm_comm a,etm_comm b];exact etm_mono hx ha hb h0 h
theorem etm_turn{x a b:Int×Tq}(hx:EF x)(ha:EF a)(hb:EF b)(h0:esgn x≤0)(h:ele a b):ele (etm x b) (etm x a):=by
 have k:=etm_mono hx.neg ha hb (by rw[esgn_neg hx];omega) h;rw[etm_neg hx ha,etm_neg hx hb] at k;have k2:=ele_neg (hx.times ha).neg (hx.times hb).neg k
 rwa [eneg_two (hx.times ha),eneg_two (hx.times hb)] at k2
theorem etm_turn'{x a b:Int×Tq}(hx:EF x)(ha:EF a)(hb:EF b)(h0:esgn x≤0)(h:ele a b):ele (etm b x) (etm a x):=by
 rw[etm_comm a,etm_comm b];exact etm_turn hx ha hb h0 h
def IsMin (L c1 c2 c3 c4:Int×Tq):Prop:=(L=c1∨L=c2∨L=c3∨L=c4)∧ele L c1∧ele L c2∧ele L c3∧ele L c4
def IsMax (L c1 c2 c3 c4:Int×Tq):Prop:=(L=c1∨L=c2∨L=c3∨L=c4)∧ele c1 L∧ele c2 L∧ele c3 L∧ele c4 L
def E4 (c1 c2 c3 c4:Int×Tq):Prop:=EF c1∧EF c2∧EF c3∧EF c4
theorem IsMin.ef{L c1 c2 c3 c4:Int×Tq}(h:IsMin L c1 c2 c3 c4)(k:E4 c1 c2 c3 c4):EF L:=by
 rcases h.1 with rfl | rfl | rfl | rfl
 ·exact k.1
 ·exact k.2.1
 ·exact k.2.2.1
 ·exact k.2.2.2
theorem IsMax.ef{L c1 c2 c3 c4:Int×Tq}(h:IsMax L c1 c2 c3 c4)(k:E4 c1 c2 c3 c4):EF L:=by
 rcases h.1 with rfl | rfl | rfl | rfl
 ·exact k.1
 ·exact k.2.1
 ·exact k.2.2.1
 ·exact k.2.2.2
theorem IsMin.uniq{L M c1 c2 c3 c4:Int×Tq}(h:IsMin L c1 c2 c3 c4)(h':IsMin M c1 c2 c3 c4)(k:E4 c1 c2 c3 c4):L=M:=by
 have a:ele L M:=by
  rcases h'.1 with e | e | e | e<;>rw[e]
  ·exact h.2.1
  ·exact h.2.2.1
  ·exact h.2.2.2.1
  ·exact h.2.2.2.2
 have b:ele M L:=by
  rcases h.1 with e | e | e | e<;>rw[e]
  ·exact h'.2.1
  ·exact h'.2.2.1
  ·exact h'.2.2.2.1
  ·exact h'.2.2.2.2
 exact ele_anti (h.ef k) (h'.ef k) a b
theorem IsMax.uniq{L M c1 c2 c3 c4:Int×Tq}(h:IsMax L c1 c2 c3 c4)(h':IsMax M c1 c2 c3 c4)(k:E4 c1 c2 c3 c4):L=M:=by
 have a:ele M L:=by
  rcases h'.1 with e | e | e | e<;>rw[e]
  ·exact h.2.1
  ·exact h.2.2.1
  ·exact h.2.2.2.1
  ·exact h.2.2.2.2
 have b:ele L M:=by
  rcases h.1 with e | e | e | e<;>rw[e]
  ·exact h'.2.1
  ·exact h'.2.2.1
  ·exact h'.2.2.2.1
  ·exact h'.2.2.2.2
 exact ele_anti (h.ef k) (h'.ef k) b a
theorem IsMax.neg{U c1 c2 c3 c4:Int×Tq}(k:E4 c1 c2 c3 c4)(h:IsMax U (eneg c1) (eneg c2) (eneg c3) (eneg c4)):IsMin (eneg U) c1 c2 c3 c4:=by
 have hu:EF U:=h.ef ⟨k.1.neg,k.2.1.neg,k.2.2.1.neg,k.2.2.2.neg⟩
 have f:∀{c:Int×Tq},EF c→ele (eneg c) U→ele (eneg U) c:=by
  intro c hc h1;have:=ele_neg hc.neg hu h1
  rwa [eneg_two hc] at this
 refine⟨?_,f k.1 h.2.1,f k.2.1 h.2.2.1,f k.2.2.1 h.2.2.2.1,f k.2.2.2 h.2.2.2.2⟩
 rcases h.1 with e | e | e | e<;>rw[e]
 ·exact .inl (eneg_two k.1)
 ·exact .inr (.inl (eneg_two k.2.1))
 ·exact .inr (.inr (.inl (eneg_two k.2.2.1)))
 ·exact .inr (.inr (.inr (eneg_two k.2.2.2)))
theorem IsMin.neg{U c1 c2 c3 c4:Int×Tq}(k:E4 c1 c2 c3 c4)(h:IsMin U (eneg c1) (eneg c2) (eneg c3) (eneg c4)):IsMax (eneg U) c1 c2 c3 c4:=by
 have hu:EF U:=h.ef ⟨k.1.neg,k.2.1.neg,k.2.2.1.neg,k.2.2.2.neg⟩
 have f:∀{c:Int×Tq},EF c→ele U (eneg c)→ele c (eneg U):=by
  intro c hc h1;have:=ele_neg hu hc.neg h1
  rwa [eneg_two hc] at this
 refine⟨?_,f k.1 h.2.1,f k.2.1 h.2.2.1,f k.2.2.1 h.2.2.2.1,f k.2.2.2 h.2.2.2.2⟩
 rcases h.1 with e | e | e | e<;>rw[e]
 ·exact .inl (eneg_two k.1)
 ·exact .inr (.inl (eneg_two k.2.1))
 ·exact .inr (.inr (.inl (eneg_two k.2.2.1)))
 ·exact .inr (.inr (.inr (eneg_two k.2.2.2)))
def sscale (a b:Ts):Ts:=(etm (if 0 < esgn b.1 then a.1 else a.2.1) b.1,etm (if esgn b.2.1 < 0 then a.1 else a.2.1) b.2.1,false)
def stm (a b:Ts):Ts:=
 if 0≤esgn a.1 then sscale a b else if esgn a.2.1≤0 then sneg (sscale (sneg a) b) else if 0≤esgn b.1 then sscale b a else if esgn b.2.1≤0 then sneg (sscale (sneg b) a) else (emin (etm a.1 b.2.1) (etm a.2.1 b.1),emax (etm a.1 b.1) (etm a.2.1 b.2.1),false)
def SF (a:Ts):Prop:=EF a.1∧EF a.2.1∧ele a.1 a.2.1
theorem SF.neg{a:Ts}(h:SF a):SF (sneg a):=⟨h.2.1.neg,h.1.neg,ele_neg h.1 h.2.1 h.2.2⟩
theorem SF.four{a b:Ts}(h:SF a)(h':SF b):E4 (etm a.1 b.1) (etm a.1 b.2.1) (etm a.2.1 b.1) (etm a.2.1 b.2.1):=⟨h.1.times h'.1,h.1.times h'.2.1,h.2.1.times h'.1,h.2.1.times h'.2.1⟩
theorem sscale_ends{a b:Ts}(h:SF a)(h':SF b)(h0:0≤esgn a.1):
  IsMin (sscale a b).1 (etm a.1 b.1) (etm a.1 b.2.1) (etm a.2.1 b.1) (etm a.2.1 b.2.1)∧IsMax (sscale a b).2.1 (etm a.1 b.1) (etm a.1 b.2.1) (etm a.2.1 b.1) (etm a.2.1 b.2.1):=by
 obtain⟨k1,k2,k3,k4⟩:=h.four h';obtain⟨a1,a2,al⟩:=h;obtain⟨b1,b2,bl⟩:=h';have h2:0≤esgn a.2.1:=Int.le_trans h0 (esgn_mono a1 a2 al);have m1:=etm_mono a1 b1 b2 h0 bl;have m2:=etm_mono a2 b1 b2 h2 bl;constructor
 ·show IsMin (etm (if 0 < esgn b.1 then a.1 else a.2.1) b.1) _ _ _ _
  split
  case isTrue g=>
   have m3:=etm_mono' b1 a1 a2 (by omega) al;exact⟨.inl rfl,ele_refl k1,m1,m3,ele_trans k1 k3 k4 m3 m2⟩
  case isFalse g=>
   have m3:=etm_turn' b1 a1 a2 (by omega) al;exact⟨.inr (.inr (.inl rfl)),m3,ele_trans k3 k1 k2 m3 m1,ele_refl k3,m2⟩
 ·show IsMax (etm (if esgn b.2.1 < 0 then a.1 else a.2.1) b.2.1) _ _ _ _
  split
  case isTrue g=>
   have m3:=etm_turn' b2 a1 a2 (by omega) al;exact⟨.inr (.inl rfl),m1,ele_refl k2,ele_trans k3 k4 k2 m2 m3,m3⟩
  case isFalse g=>
   have m3:=etm_mono' b2 a1 a2 (by omega) al;exact⟨.inr (.inr (.inr rfl)),ele_trans k1 k2 k4 m1 m3,m3,m2,ele_refl k4⟩
theorem IsMin.p1{L c1 c2 c3 c4:Int×Tq}(h:IsMin L c3 c4 c1 c2):IsMin L c1 c2 c3 c4:=by
 obtain⟨h0,h1,h2,h3,h4⟩:=h;refine⟨?_,h3,h4,h1,h2⟩
 rcases h0 with e | e | e | e
 ·exact .inr (.inr (.inl e))
 ·exact .inr (.inr (.inr e))
 ·exact .inl e
 ·exact .inr (.inl e)
theorem IsMax.p1{L c1 c2 c3 c4:Int×Tq}(h:IsMax L c3 c4 c1 c2):IsMax L c1 c2 c3 c4:=by
 obtain⟨h0,h1,h2,h3,h4⟩:=h;refine⟨?_,h3,h4,h1,h2⟩
 rcases h0 with e | e | e | e
 ·exact .inr (.inr (.inl e))
 ·exact .inr (.inr (.inr e))
 ·exact .inl e
 ·exact .inr (.inl e)
theorem IsMin.p2{L c1 c2 c3 c4:Int×Tq}(h:IsMin L c1 c3 c2 c4):IsMin L c1 c2 c3 c4:=by
 obtain⟨h0,h1,h2,h3,h4⟩:=h;refine⟨?_,h1,h3,h2,h4⟩
 rcases h0 with e | e | e | e
 ·exact .inl e
 ·exact .inr (.inr (.inl e))
 ·exact .inr (.inl e)
 ·exact .inr (.inr (.inr e))
theorem IsMax.p2{L c1 c2 c3 c4:Int×Tq}(h:IsMax L c1 c3 c2 c4):IsMax L c1 c2 c3 c4:=by
 obtain⟨h0,h1,h2,h3,h4⟩:=h;refine⟨?_,h1,h3,h2,h4⟩
 rcases h0 with e | e | e | e
 ·exact .inl e
 ·exact .inr (.inr (.inl e))
 ·exact .inr (.inl e)
 ·exact .inr (.inr (.inr e))
theorem sscale_neg{a b:Ts}(h:SF a)(h':SF b)(h0:esgn a.2.1≤0):
  IsMin (sneg (sscale (sneg a) b)).1 (etm a.1 b.1) (etm a.1 b.2.1) (etm a.2.1 b.1) (etm a.2.1 b.2.1)∧IsMax (sneg (sscale (sneg a) b)).2.1 (etm a.1 b.1) (etm a.1 b.2.1) (etm a.2.1 b.1) (etm a.2.1 b.2.1):=by
 have k:=sscale_ends h.neg h' (by show 0≤esgn (eneg a.2.1);rw[esgn_neg h.2.1];omega);have e1:etm (sneg a).1 b.1=eneg (etm a.2.1 b.1):=etm_neg h.2.1 h'.1;have e2:etm (sneg a).1 b.2.1=eneg (etm a.2.1 b.2.1):=etm_neg h.2.1 h'.2.1;have e3:etm (sneg a).2.1 b.1=eneg (etm a.1 b.1):=etm_neg h.1 h'.1;have e4:etm (sneg a).2.1 b.2.1=eneg (etm a.1 b.2.1):=etm_neg h.1 h'.2.1;rw[e1,e2,e3,e4] at k;obtain⟨k1,k2,k3,k4⟩:=h.four h';exact⟨(IsMax.neg ⟨k3,k4,k1,k2⟩ k.2).p1,(IsMin.neg ⟨k3,k4,k1,k2⟩ k.1).p1⟩
theorem emin_two{x y:Int×Tq}(hx:EF x)(hy:EF y):(emin x y=x∨emin x y=y)∧ele (emin x y) x∧ele (emin x y) y:=by
 unfold emin
 split
 case isTrue h=>exact⟨.inr rfl,by unfold ele;omega,ele_refl hy⟩
 case isFalse h=>
  refine⟨.inl rfl,ele_refl hx,?_⟩
  rcases ele_total hx hy with k | k
  ·exact k
  ·have k0:ecmp y x=0:=by unfold ele at k;omega
   rcases hx with ⟨s,hs,rfl⟩ | rfl | rfl
   ·rcases hy with ⟨t,ht,rfl⟩ | rfl | rfl
    ·rw[ecmp_fin] at k0;rw[(fcmp_zero_iff ht hs).1 k0];exact ele_fin.2 (fcmp_self _)
    ·exact absurd (show(1:Int)=0 from k0) (by decide)
    ·exact absurd (show(-1:Int)=0 from k0) (by decide)
   ·rcases hy with ⟨t,ht,rfl⟩ | rfl | rfl
    ·exact absurd (show(-1:Int)=0 from k0) (by decide)
    ·exact ele_refl (.inr (.inl rfl))
    ·exact absurd (show(-1:Int)=0 from k0) (by decide)
   ·exact ele_mI hy
theorem emax_two{x y:Int×Tq}(hx:EF x)(hy:EF y):(emax x y=x∨emax x y=y)∧ele x (emax x y)∧ele y (emax x y):=by
 unfold emax
 split
 case isTrue h=>
  refine⟨.inr rfl,?_,ele_refl hy⟩
  rcases ele_total hx hy with k | k
  ·exact k
  ·unfold ele at k;omega
 case isFalse h=>exact⟨.inl rfl,ele_refl hx,by unfold ele;omega⟩
theorem stm_ends{a b:Ts}(h:SF a)(h':SF b):
  (IsMin (stm a b).1 (etm a.1 b.1) (etm a.1 b.2.1) (etm a.2.1 b.1) (etm a.2.1 b.2.1)∧IsMax (stm a b).2.1 (etm a.1 b.1) (etm a.1 b.2.1) (etm a.2.1 b.1) (etm a.2.1 b.2.1))∧(stm a b).2.2=false:=by
 unfold stm
 split
 case isTrue g=>exact⟨sscale_ends h h' g,rfl⟩
 split
 case isTrue g=>exact⟨sscale_neg h h' g,rfl⟩
 split
 case isTrue g=>
  have k:=sscale_ends h' h g;rw[etm_comm b.1 a.1,etm_comm b.1 a.2.1,etm_comm b.2.1 a.1,etm_comm b.2.1 a.2.1] at k;exact⟨⟨k.1.p2,k.2.p2⟩,rfl⟩
 split
 case isTrue g=>
  have k:=sscale_neg h' h g;rw[etm_comm b.1 a.1,etm_comm b.1 a.2.1,etm_comm b.2.1 a.1,etm_comm b.2.1 a.2.1] at k;exact⟨⟨k.1.p2,k.2.p2⟩,rfl⟩
 case isFalse g1 g2 g3 g4=>
  obtain⟨k1,k2,k3,k4⟩:=h.four h';obtain⟨a1,a2,al⟩:=h;obtain⟨b1,b2,bl⟩:=h';have m1:=etm_turn a1 b1 b2 (by omega) bl;have m2:=etm_mono a2 b1 b2 (by omega) bl;have m3:=etm_turn' b1 a1 a2 (by omega) al;have m4:=etm_mono' b2 a1 a2 (by omega) al;have n:=emin_two k2 k3;have x:=emax_two k1 k4
  have en:EF (emin (etm a.1 b.2.1) (etm a.2.1 b.1)):=by rcases n.1 with e | e<;>rw[e]<;>assumption
  have ex:EF (emax (etm a.1 b.1) (etm a.2.1 b.2.1)):=by rcases x.1 with e | e<;>rw[e]<;>assumption
  refine⟨⟨⟨?_,ele_trans en k2 k1 n.2.1 m1,n.2.1,n.2.2,ele_trans en k2 k4 n.2.1 m4⟩,⟨?_,x.2.1,ele_trans k2 k1 ex m1 x.2.1,ele_trans k3 k4 ex m2 x.2.2,x.2.2⟩⟩,rfl⟩
  ·rcases n.1 with e | e
   ·exact .inr (.inl e)
   ·exact .inr (.inr (.inl e))
  ·rcases x.1 with e | e
   ·exact .inl e
   ·exact .inr (.inr (.inr e))
def ZE (x' x:Int×Tq):Prop:=x'=x∨(x'=(0,false,0,0)∧x=(0,false,0,1))
theorem ZE.self(x:Int×Tq):ZE x x:=.inl rfl
theorem ZE.inf{x' x:Int×Tq}(h:ZE x' x):x'.1=x.1:=by
 rcases h with rfl | ⟨rfl,rfl⟩
 ·rfl
 ·rfl
theorem ZE.sgn{x' x:Int×Tq}(h:ZE x' x):esgn x'=esgn x:=by
 rcases h with rfl | ⟨rfl,rfl⟩
 ·rfl
 ·rfl
theorem ZE.nz{x' x:Int×Tq}(h:ZE x' x)(h0:esgn x≠0):x'=x:=by
 rcases h with rfl | ⟨rfl,rfl⟩
 ·rfl
 ·exact absurd rfl h0
theorem ZE.den{x' x:Int×Tq}(h:ZE x' x)(hx:EF x)(h0:x.1=0):(x'.2.1,x'.2.2.1,den1 x'.2.2.2)=x.2:=by
 rcases h with rfl | ⟨rfl,rfl⟩
 ·rcases hx with ⟨t,ht,rfl⟩ | rfl | rfl
  ·show(t.1,t.2.1,den1 t.2.2)=t;rw[den1_self ht.pos]
  ·exact absurd h0 (by decide)
  ·exact absurd h0 (by decide)
 ·rfl
theorem rtm_z{x' x y' y:Int×Tq}(hx:ZE x' x)(hy:ZE y' y)(ex:EF x)(ey:EF y):ZE (rtm x' y') (etm x y):=by
 unfold rtm etm;rw[hx.sgn,hy.sgn]
 by_cases hz:esgn x*esgn y=0
 ·rw[if_pos hz,if_pos hz];exact .inr ⟨rfl,rfl⟩
 ·rw[if_neg hz,if_neg hz]
  have nx:esgn x≠0:=fun h=>hz (by rw[h,Int.zero_mul])
  have ny:esgn y≠0:=fun h=>hz (by rw[h,Int.mul_zero])
  have e1:=hx.nz nx;have e2:=hy.nz ny;subst e1 e2;exact .inl rfl
theorem ecmp_swap(x y:Int×Tq):ecmp y x=- ecmp x y:=by
 unfold ecmp fcmp
 by_cases h:x.1≠0∨y.1≠0
 ·rw[if_pos h,if_pos h.symm,cmpI_swap]
 ·rw[if_neg h,if_neg (fun k=>h k.symm),cmpI_swap]
theorem cmpI_neg_iff{a b:Int}:cmpI a b < 0↔a < b:=by
 unfold cmpI
 split
 case isTrue h=>exact⟨fun _=>h,fun _=>by decide⟩
 case isFalse h=>
  split
  ·exact⟨fun h=>absurd h (by decide),fun k=>absurd k h⟩
  ·exact⟨fun h=>absurd h (by decide),fun k=>absurd k h⟩
theorem rbf_z{x' x y' y:Int×Tq}(hx:ZE x' x)(hy:ZE y' y)(ex:EF x)(ey:EF y):rbf x' y'=decide (ecmp x y < 0):=by
 unfold rbf ecmp;rw[hx.inf,hy.inf]
 by_cases hne:x.1≠y.1
 ·rw[if_pos hne,if_pos (by omega)];exact(decide_eq_decide.2 cmpI_neg_iff).symm
 ·rw[if_neg hne];have he:x.1=y.1:=Decidable.not_not.1 hne
  by_cases h0:x.1=0
  ·rw[if_pos h0,if_neg (by omega),hx.den ex h0,hy.den ey (by omega)]
  ·rw[if_neg h0,if_pos (.inl h0),he];rw[show cmpI y.1 y.1=0 by unfold cmpI;rw[if_neg (Int.lt_irrefl _),if_neg (Int.lt_irrefl _)]];rfl
theorem rL_z{l' l c' c:Int×Tq}(hl:ZE l' l)(hc:ZE c' c)(el:EF l)(ec:EF c):ZE (rL l' c') (emin l c):=by
 unfold rL emin;rw[rbf_z hc hl ec el]
 by_cases h:ecmp c l < 0
 ·rw[decide_eq_true h,if_pos rfl,if_pos h];exact hc
 ·rw[decide_eq_false h,if_neg (by decide),if_neg h];exact hl
theorem rM_z{m' m c' c:Int×Tq}(hm:ZE m' m)(hc:ZE c' c)(em:EF m)(ec:EF c):ZE (rM m' c') (emax m c):=by
 unfold rM emax;rw[rbf_z hm hc em ec,ecmp_swap m c]
 by_cases h:ecmp m c < 0
 ·rw[decide_eq_true h,if_pos rfl,if_pos (by omega)];exact hc
 ·rw[decide_eq_false h,if_neg (by decide),if_neg (by omega)];exact hm
theorem emin_ef{x y:Int×Tq}(hx:EF x)(hy:EF y):EF (emin x y):=by unfold emin;split<;>assumption
theorem emax_ef{x y:Int×Tq}(hx:EF x)(hy:EF y):EF (emax x y):=by unfold emax;split<;>assumption
theorem pI_ef:EF (1,false,0,0):=.inr (.inl rfl)
theorem mI_ef:EF (-1,false,0,0):=.inr (.inr rfl)
theorem fold_min{c1 c2 c3 c4:Int×Tq}(k:E4 c1 c2 c3 c4):IsMin (emin (emin (emin (emin (1,false,0,0) c1) c2) c3) c4) c1 c2 c3 c4:=by
 obtain⟨k1,k2,k3,k4⟩:=k;have f1:=emin_two pI_ef k1;have e1:=emin_ef pI_ef k1;have f2:=emin_two e1 k2;have e2:=emin_ef e1 k2;have f3:=emin_two e2 k3;have e3:=emin_ef e2 k3;have f4:=emin_two e3 k4;have e4:=emin_ef e3 k4;generalize emin (emin (emin (emin (1,false,0,0) c1) c2) c3) c4=L4 at *;generalize emin (emin (emin (1,false,0,0) c1) c2) c3=L3 at *;generalize emin (emin (1,false,0,0) c1) c2=L2 at *;generalize emin (1,false,0,0) c1=L1 at *;have g3:ele L4 L2:=ele_trans e4 e3 e2 f4.2.1 f3.2.1;have g2:ele L4 L1:=ele_trans e4 e2 e1 g3 f2.2.1;refine⟨?_,ele_trans e4 e1 k1 g2 f1.2.2,ele_trans e4 e2 k2 g3 f2.2.2,ele_trans e4 e3 k3 f4.2.1 f3.2.2,f4.2.2⟩
 rcases f4.1 with h | h
 ·rcases f3.1 with h3 | h3
  ·rcases f2.1 with h2 | h2
   ·rcases f1.1 with h1 | h1
    ·have:c1=(1,false,0,0):=pI_ele k1 (by rw[←h1];exact f1.2.2);exact .inl (by rw[h,h3,h2,h1,this])
    ·exact .inl (by rw[h,h3,h2,h1])
   ·exact .inr (.inl (by rw[h,h3,h2]))
  ·exact .inr (.inr (.inl (by rw[h,h3])))
 ·exact .inr (.inr (.inr h))
theorem fold_max{c1 c2 c3 c4:Int×Tq}(k:E4 c1 c2 c3 c4):IsMax (emax (emax (emax (emax (-1,false,0,0) c1) c2) c3) c4) c1 c2 c3 c4:=by
 obtain⟨k1,k2,k3,k4⟩:=k;have f1:=emax_two mI_ef k1;have e1:=emax_ef mI_ef k1;have f2:=emax_two e1 k2;have e2:=emax_ef e1 k2;have f3:=emax_two e2 k3;have e3:=emax_ef e2 k3;have f4:=emax_two e3 k4;have e4:=emax_ef e3 k4;generalize emax (emax (emax (emax (-1,false,0,0) c1) c2) c3) c4=L4 at *;generalize emax (emax (emax (-1,false,0,0) c1) c2) c3=L3 at *;generalize emax (emax (-1,false,0,0) c1) c2=L2 at *;generalize emax (-1,false,0,0) c1=L1 at *;have g3:ele L2 L4:=ele_trans e2 e3 e4 f3.2.1 f4.2.1;have g2:ele L1 L4:=ele_trans e1 e2 e4 f2.2.1 g3;refine⟨?_,ele_trans k1 e1 e4 f1.2.2 g2,ele_trans k2 e2 e4 f2.2.2 g3,ele_trans k3 e3 e4 f3.2.2 f4.2.1,f4.2.2⟩
 rcases f4.1 with h | h
 ·rcases f3.1 with h3 | h3
  ·rcases f2.1 with h2 | h2
   ·rcases f1.1 with h1 | h1
    ·have:c1=(-1,false,0,0):=ele_mI_eq k1 (by rw[←h1];exact f1.2.2);exact .inl (by rw[h,h3,h2,h1,this])
    ·exact .inl (by rw[h,h3,h2,h1])
   ·exact .inr (.inl (by rw[h,h3,h2]))
  ·exact .inr (.inr (.inl (by rw[h,h3])))
 ·exact .inr (.inr (.inr h))
theorem etm_pI{x y:Int×Tq}(hx:EF x)(hy:EF y)(h:etm x y=(1,false,0,0)):(x.1≠0∨y.1≠0)∧esgn x*esgn y=1:=by
 by_cases hi:x.1≠0∨y.1≠0
 ·refine⟨hi,?_⟩;rw[etm_inf hi] at h
  rcases mul3 hx.s3 hy.s3 with e | e | e
  ·rw[e] at h;exact absurd h (by decide)
  ·rw[e] at h;exact absurd h (by decide)
  ·exact e
 ·rcases hx with ⟨a,ha,rfl⟩ | rfl | rfl
  ·rcases hy with ⟨b,hb,rfl⟩ | rfl | rfl
   ·rw[etm_fin ha hb] at h;exact absurd (show(0:Int)=1 from congrArg Prod.fst h) (by decide)
   ·exact absurd (.inr (by decide)) hi
   ·exact absurd (.inr (by decide)) hi
  ·exact absurd (.inl (by decide)) hi
  ·exact absurd (.inl (by decide)) hi
def LoE (x:Int×Tq):Prop:=x.1=0∨x=(-1,false,0,0)
def HiE (x:Int×Tq):Prop:=x.1=0∨x=(1,false,0,0)
theorem no_pI{al ah bl bh:Int×Tq}(h1:EF al)(h2:EF ah)(h3:EF bl)(h4:EF bh)(l1:LoE al)(u1:HiE ah)(l2:LoE bl)(u2:HiE bh)(k1:etm al bl=(1,false,0,0))(k2:etm al bh=(1,false,0,0))(k3:etm ah bl=(1,false,0,0))(k4:etm ah bh=(1,false,0,0)):False:=by
 obtain⟨i1,s1⟩:=etm_pI h1 h3 k1;obtain⟨i2,s2⟩:=etm_pI h1 h4 k2;obtain⟨i3,s3⟩:=etm_pI h2 h3 k3;obtain⟨i4,s4⟩:=etm_pI h2 h4 k4
 have inf_lo:∀{x:Int×Tq},LoE x→x.1≠0→esgn x=-1:=by
  intro x hx h0
  rcases hx with h | rfl
  ·exact absurd h h0
  ·rfl
 have inf_hi:∀{x:Int×Tq},HiE x→x.1≠0→esgn x=1:=by
  intro x hx h0
  rcases hx with h | rfl
  ·exact absurd h h0
  ·rfl
 rcases i4 with i4 | i4
 ·have e:=inf_hi u1 i4;rw[e] at s3 s4
  have eb:esgn bl=1:=by omega
  rcases i1 with i1 | i1
  ·have:=inf_lo l1 i1;rw[this,eb] at s1;exact absurd s1 (by decide)
  ·have:=inf_lo l2 i1;omega
 ·have e:=inf_hi u2 i4;rw[e] at s2 s4
  have ea:esgn al=1:=by omega
  rcases i1 with i1 | i1
  ·have:=inf_lo l1 i1;omega
  ·have:=inf_lo l2 i1;rw[this,ea] at s1;exact absurd s1 (by decide)
theorem LoE.pos{x:Int×Tq}(h:EF x)(hn:x≠(1,false,0,0)):LoE x:=by
 rcases h with ⟨t,_,rfl⟩ | rfl | rfl
 ·exact .inl rfl
 ·exact absurd rfl hn
 ·exact .inr rfl
theorem HiE.pos{x:Int×Tq}(h:EF x)(hn:x≠(-1,false,0,0)):HiE x:=by
 rcases h with ⟨t,_,rfl⟩ | rfl | rfl
 ·exact .inl rfl
 ·exact .inr rfl
 ·exact absurd rfl hn
theorem etm_mI{x y:Int×Tq}(hx:EF x)(hy:EF y)(h:etm x y=(-1,false,0,0)):etm (eneg x) y=(1,false,0,0):=by
 rw[etm_neg hx hy,h];rfl
theorem stm_lohi{a b:Ts}(h:SF a)(h':SF b)(l1:LoE a.1)(u1:HiE a.2.1)(l2:LoE b.1)(u2:HiE b.2.1):LoE (stm a b).1∧HiE (stm a b).2.1∧SF (stm a b):=by
 have k:=h.four h';obtain⟨⟨m1,m2⟩,_⟩:=stm_ends h h';have em:=m1.ef k;have ex:=m2.ef k;refine⟨.pos em ?_,.pos ex ?_,em,ex,?_⟩
 ·intro e;rw[e] at m1;exact no_pI h.1 h.2.1 h'.1 h'.2.1 l1 u1 l2 u2 (pI_ele k.1 m1.2.1) (pI_ele k.2.1 m1.2.2.1) (pI_ele k.2.2.1 m1.2.2.2.1) (pI_ele k.2.2.2 m1.2.2.2.2)
 ·intro e;rw[e] at m2;have n1:=etm_mI h.1 h'.1 (ele_mI_eq k.1 m2.2.1);have n2:=etm_mI h.1 h'.2.1 (ele_mI_eq k.2.1 m2.2.2.1);have n3:=etm_mI h.2.1 h'.1 (ele_mI_eq k.2.2.1 m2.2.2.2.1);have n4:=etm_mI h.2.1 h'.2.1 (ele_mI_eq k.2.2.2 m2.2.2.2.2)
  have la:LoE (eneg a.2.1):=by
   rcases u1 with u | u
   ·exact .inl (by unfold eneg;rw[if_pos u])
   ·rw[u];exact .inr rfl
  have ua:HiE (eneg a.1):=by
   rcases l1 with u | u
   ·exact .inl (by unfold eneg;rw[if_pos u])
   ·rw[u];exact .inr rfl
  exact no_pI h.2.1.neg h.1.neg h'.1 h'.2.1 la ua l2 u2 n3 n4 n1 n2
 ·exact ele_trans em k.1 ex m1.2.1 m2.2.1
theorem mkS_of{S:Ts}(hl:LoE S.1)(hu:HiE S.2.1)(he:S.2.2=false):S=mkS S.1.2 S.2.1.2 (S.1.1 != 0) (S.2.1.1 != 0):=by
 obtain⟨⟨i,t⟩,⟨j,u⟩,e⟩:=S;have he:e=false:=he;subst he
 have h1:(i,t)=if (i != 0) then (-1,false,0,0) else (0,t):=by
  rcases hl with h | h
  ·have h:i=0:=h;subst h;rfl
  ·have h:(i,t)=(-1,false,0,0):=h;rw[Prod.mk.injEq] at h;obtain⟨rfl,rfl⟩:=h;rfl
 have h2:(j,u)=if (j != 0) then (1,false,0,0) else (0,u):=by
  rcases hu with h | h
  ·have h:j=0:=h;subst h;rfl
  ·have h:(j,u)=(1,false,0,0):=h;rw[Prod.mk.injEq] at h;obtain⟨rfl,rfl⟩:=h;rfl
 unfold mkS;exact Prod.ext h1 (Prod.ext h2 rfl)
theorem pord_of{S:Ts}(h:SF S):pord S.1.2 S.2.1.2 (S.1.1 != 0) (S.2.1.1 != 0):=by
 obtain⟨⟨i,t⟩,⟨j,u⟩,e⟩:=S;obtain⟨h1,h2,h3⟩:=h
 have f:∀{i:Int} {t:Tq},EF (i,t)→(i != 0)=false→i=0∧IsFr t:=by
  intro i t h k
  have k:i=0:=by simpa using k
  rcases h with ⟨t',ht,e⟩ | e | e
  ·rw[Prod.mk.injEq] at e;rw[e.2];exact⟨k,ht⟩
  ·rw[Prod.mk.injEq] at e;exact absurd (e.1.symm.trans k) (by decide)
  ·rw[Prod.mk.injEq] at e;exact absurd (e.1.symm.trans k) (by decide)
 refine⟨fun k=>(f h1 k).2,fun k=>(f h2 k).2,fun k k'=>?_⟩;have e1:=(f h1 k).1;have e2:=(f h2 k').1;subst e1 e2;exact ele_fin.1 h3
theorem mkS_lo(A B:Tq)(x y:Bool):LoE (mkS A B x y).1∧HiE (mkS A B x y).2.1:=by
 cases x<;>cases y
 ·exact⟨.inl rfl,.inl rfl⟩
 ·exact⟨.inl rfl,.inr rfl⟩
 ·exact⟨.inr rfl,.inl rfl⟩
 ·exact⟨.inr rfl,.inr rfl⟩
theorem mkS_sf{A B:Tq}{x y:Bool}(h:pord A B x y):SF (mkS A B x y):=by
 obtain⟨h1,h2,h3⟩:=h
 cases x<;>cases y
 ·exact⟨.inl ⟨_,h1 rfl,rfl⟩,.inl ⟨_,h2 rfl,rfl⟩,ele_fin.2 (h3 rfl rfl)⟩
 ·exact⟨.inl ⟨_,h1 rfl,rfl⟩,pI_ef,ele_pI (.inl ⟨_,h1 rfl,rfl⟩)⟩
 ·exact⟨mI_ef,.inl ⟨_,h2 rfl,rfl⟩,ele_mI (.inl ⟨_,h2 rfl,rfl⟩)⟩
 ·exact⟨mI_ef,pI_ef,ele_mI pI_ef⟩
theorem endL_z{A lo:Tq}{x:Bool}(B:Tq)(y:Bool)(h:zrel A x lo):ZE (endL x lo) (mkS A B x y).1:=by
 cases x
 ·rcases h with rfl | ⟨rfl,rfl⟩
  ·exact .inl rfl
  ·exact .inr ⟨rfl,rfl⟩
 ·exact .inl rfl
theorem endH_z{B hi:Tq}{y:Bool}(A:Tq)(x:Bool)(h:zrel B y hi):ZE (endH y hi) (mkS A B x y).2.1:=by
 cases y
 ·rcases h with rfl | ⟨rfl,rfl⟩
  ·exact .inl rfl
  ·exact .inr ⟨rfl,rfl⟩
 ·exact .inl rfl
theorem rT_z{l' l m' m:Int×Tq}(hl:ZE l' l)(hm:ZE m' m):∃lo hi,rT l' m'=(lo,hi,l.1 != 0,m.1 != 0,false)∧zrel l.2 (l.1 != 0) lo∧zrel m.2 (m.1 != 0) hi:=by
 have f:∀{l' l:Int×Tq},ZE l' l→zrel l.2 (l.1 != 0) (if (l'.1 != 0) then (false,0,0) else l'.2):=by
  intro l' l h;rw[h.inf];cases hb:(l.1 != 0)
  ·rcases h with rfl | ⟨rfl,rfl⟩
   ·exact .inl rfl
   ·exact .inr ⟨rfl,rfl⟩
  ·exact rfl
 refine⟨_,_,?_,f hl,f hm⟩;unfold rT;rw[hl.inf,hm.inf]
end Go.Proofs.YteblinkehldghaaGreatDoor
