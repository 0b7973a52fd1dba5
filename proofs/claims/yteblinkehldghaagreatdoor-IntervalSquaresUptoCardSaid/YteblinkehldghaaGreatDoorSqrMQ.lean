/- Times of the reference. -/
import Derived.Test.YteblinkehldghaaGreatDoorAbsIQ
import Derived.Test.YteblinkehldghaaGreatDoorBase
import Derived.Test.YteblinkehldghaaGreatDoorCanEQ
import Derived.Test.YteblinkehldghaaGreatDoorEndsB
import Derived.Test.YteblinkehldghaaGreatDoorMkIQ
import Derived.Test.YteblinkehldghaaGreatDoorFracA
import Derived.Test.YteblinkehldghaaGreatDoorFracX
import Derived.Test.YteblinkehldghaaGreatDoorGrd
import Derived.Test.YteblinkehldghaaGreatDoorHasT
import Derived.Test.YteblinkehldghaaGreatDoorHasU
import Derived.Test.YteblinkehldghaaGreatDoorIvC
import Derived.Test.YteblinkehldghaaGreatDoorLeaMQ
import Derived.Test.YteblinkehldghaaGreatDoorLen32
import Derived.Test.YteblinkehldghaaGreatDoorMulMQ
import Derived.Test.YteblinkehldghaaGreatDoorNatB
import Derived.Test.YteblinkehldghaaGreatDoorNatE
import Derived.Test.YteblinkehldghaaGreatDoorNatK
import Derived.Test.YteblinkehldghaaGreatDoorNatR
import Derived.Test.YteblinkehldghaaGreatDoorNatU
import Derived.Test.YteblinkehldghaaGreatDoorNatW
import Derived.Test.YteblinkehldghaaGreatDoorNegI
import Derived.Test.YteblinkehldghaaGreatDoorNumX
import Derived.Test.YteblinkehldghaaGreatDoorPowAQ
import Derived.Test.YteblinkehldghaaGreatDoorPowPQ
import Derived.Test.YteblinkehldghaaGreatDoorPwiKQ
import Derived.Test.YteblinkehldghaaGreatDoorQuoIQ
import Derived.Test.YteblinkehldghaaGreatDoorRefK
import Derived.Test.YteblinkehldghaaGreatDoorRefN
import Derived.Test.YteblinkehldghaaGreatDoorRefP
import Derived.Test.YteblinkehldghaaGreatDoorRefT
import Derived.Test.YteblinkehldghaaGreatDoorRefX
import Derived.Test.YteblinkehldghaaGreatDoorRefY
import Derived.Test.YteblinkehldghaaGreatDoorRndJQ
import Derived.Test.YteblinkehldghaaGreatDoorSam
import Derived.Test.YteblinkehldghaaGreatDoorLawD
import Derived.Test.YteblinkehldghaaGreatDoorRefZ
import Derived.Deep.CutBlock
import Derived.Test.YteblinkehldghaaGreatDoorAbsI
namespace Go.Proofs.YteblinkehldghaaGreatDoor
open Go.RowKit Dg
def TS (w:World) (j1 j2 z ll lm:List Value) (B:Nat) (W:World):Prop:=Box W w.heap.size j1.toArray∧Box W (w.heap.size+1) j2.toArray∧Box W (w.heap.size+1+1) z.toArray∧Box W B ll.toArray∧Box W (B+1) lm.toArray∧w.heap.size+1+1 < B∧Bw w W
theorem TS.call{w W W':World}{j1 j2 z ll lm:List Value}{B:Nat}(h:TS w j1 j2 z ll lm B W)(hb:Bw W W'):TS w j1 j2 z ll lm B W':=
 ⟨h.1.below hb,h.2.1.below hb,h.2.2.1.below hb,h.2.2.2.1.below hb,h.2.2.2.2.1.below hb,h.2.2.2.2.2.1,h.2.2.2.2.2.2.trans (hb.mono h.2.2.2.2.2.2.size)⟩
theorem TS.bel{w W:World}{j1 j2 z ll lm:List Value}{B:Nat}(h:TS w j1 j2 z ll lm B W):Bw w W:=h.2.2.2.2.2.2
def QS (W:World) (l:List (Value×(Tq))):Prop:=∀p,p ∈ l→QNorm W p.1 p.2
theorem QS.nil(W:World):QS W []:=fun _ h=>absurd h (by simp)
theorem QS.c{W:World}{v:Value}{q:Tq}{l:List (Value×(Tq))}(h:QNorm W v q)(hl:QS W l):QS W ((v,q)::l):=by
 intro p hp
 rcases List.mem_cons.1 hp with rfl | hp
 ·exact h
 ·exact hl p hp
theorem QS.h{W:World}{v:Value}{q:Tq}{l:List (Value×(Tq))}(h:QS W ((v,q)::l)):QNorm W v q:=h _ List.mem_cons_self
theorem QS.t{W:World}{p:Value×(Tq)}{l:List (Value×(Tq))}(h:QS W (p::l)):QS W l:=fun q hq=>h q (List.mem_cons_of_mem _ hq)
theorem QS.call{W W':World}{l:List (Value×(Tq))}(h:QS W l)(hb:Bw W W'):QS W' l:=fun p hp=>(h p hp).below hb
theorem QS.stores{W:World}{l:List (Value×(Tq))}{B k:Nat}{cs:Array Value}{vs:List Value}(h:QS W l)(hB:Box W B cs)(hn:NDs vs):QS (Go.Proofs.YteblinkehldghaaGreatDoor.stores W B k vs) l:=fun p hp=>(h p hp).stores hB hn
def ZE (x' x:Int×Tq):Prop:=x'=x∨(x'=(0,false,0,0)∧x=(0,false,0,1))
theorem ZE.inf{x' x:Int×Tq}(h:ZE x' x):x'.1=x.1:=by
 rcases h with rfl | ⟨rfl,rfl⟩
 ·rfl
 ·rfl
theorem ZE.den{x' x:Int×Tq}(h:ZE x' x)(hx:EF x)(h0:x.1=0):(x'.2.1,x'.2.2.1,den1 x'.2.2.2)=x.2:=by
 rcases h with rfl | ⟨rfl,rfl⟩
 ·rcases hx with ⟨t,ht,rfl⟩ | rfl | rfl
  ·show(t.1,t.2.1,den1 t.2.2)=t;rw[den1_self ht.pos]
  ·exact absurd h0 (by decide)
  ·exact absurd h0 (by decide)
 ·rfl
theorem pI_ef:EF (1,false,0,0):=.inr (.inl rfl)
theorem mI_ef:EF (-1,false,0,0):=.inr (.inr rfl)
theorem etm_pI{x y:Int×Tq}(hx:EF x)(hy:EF y)(h:etm x y=(1,false,0,0)):(x.1≠0∨y.1≠0)∧esgn x*esgn y=1:=by
 by_cases hi:x.1≠0∨y.1≠0
 ·refine⟨hi,?_⟩;rw[etm_inf hi] at h
  rcases mul3 hx.s3 hy.s3 with e | e | e
  ·rw[e] at h;exact absurd h (by decide)
  ·rw[e] at h;exact absurd h (by decide)
  ·exact e
 ·rcases hx with ⟨a,ha,rfl⟩ | rfl | rfl
  ·rcases hy with ⟨b,hb,rfl⟩ | rfl | rfl
   ·rw[etm_fin ha hb] at h;exact absurd (show(0:Int)=1 from congrArg Prod.fst h) (by decide)
   ·exact absurd (.inr (by decide)) hi
   ·exact absurd (.inr (by decide)) hi
  ·exact absurd (.inl (by decide)) hi
  ·exact absurd (.inl (by decide)) hi
def LoE (x:Int×Tq):Prop:=x.1=0∨x=(-1,false,0,0)
def HiE (x:Int×Tq):Prop:=x.1=0∨x=(1,false,0,0)
theorem no_pI{al ah bl bh:Int×Tq}(h1:EF al)(h2:EF ah)(h3:EF bl)(h4:EF bh)(l1:LoE al)(u1:HiE ah)(l2:LoE bl)(u2:HiE bh)(k1:etm al bl=(1,false,0,0))(k2:etm al bh=(1,false,0,0))(k3:etm ah bl=(1,false,0,0))(k4:etm ah bh=(1,false,0,0)):False:=by
 obtain⟨i1,s1⟩:=etm_pI h1 h3 k1;obtain⟨i2,s2⟩:=etm_pI h1 h4 k2;obtain⟨i3,s3⟩:=etm_pI h2 h3 k3;obtain⟨i4,s4⟩:=etm_pI h2 h4 k4
 have inf_lo:∀{x:Int×Tq},LoE x→x.1≠0→esgn x=-1:=by
  intro x hx h0
  rcases hx with h | rfl
  ·exact absurd h h0
  ·rfl
 have inf_hi:∀{x:Int×Tq},HiE x→x.1≠0→esgn x=1:=by
  intro x hx h0
  rcases hx with h | rfl
  ·exact absurd h h0
  ·rfl
 rcases i4 with i4 | i4
 ·have e:=inf_hi u1 i4;rw[e] at s3 s4
  have eb:esgn bl=1:=by omega
  rcases i1 with i1 | i1
  ·have:=inf_lo l1 i1;rw[this,eb] at s1;exact absurd s1 (by decide)
  ·have:=inf_lo l2 i1;omega
 ·have e:=inf_hi u2 i4;rw[e] at s2 s4
  have ea:esgn al=1:=by omega
  rcases i1 with i1 | i1
  ·have:=inf_lo l1 i1;omega
  ·have:=inf_lo l2 i1;rw[this,ea] at s1;exact absurd s1 (by decide)
theorem LoE.pos{x:Int×Tq}(h:EF x)(hn:x≠(1,false,0,0)):LoE x:=by
 rcases h with ⟨t,_,rfl⟩ | rfl | rfl
 ·exact .inl rfl
 ·exact absurd rfl hn
 ·exact .inr rfl
theorem HiE.pos{x:Int×Tq}(h:EF x)(hn:x≠(-1,false,0,0)):HiE x:=by
 rcases h with ⟨t,_,rfl⟩ | rfl | rfl
 ·exact .inl rfl
 ·exact .inr rfl
 ·exact absurd rfl hn
theorem etm_mI{x y:Int×Tq}(hx:EF x)(hy:EF y)(h:etm x y=(-1,false,0,0)):etm (eneg x) y=(1,false,0,0):=by
 rw[etm_neg hx hy,h];rfl
theorem stm_lohi{a b:Ts}(h:SF a)(h':SF b)(l1:LoE a.1)(u1:HiE a.2.1)(l2:LoE b.1)(u2:HiE b.2.1):LoE (stm a b).1∧HiE (stm a b).2.1∧SF (stm a b):=by
 have k:=h.four h';obtain⟨⟨m1,m2⟩,_⟩:=stm_ends h h';have em:=m1.ef k;have ex:=m2.ef k;refine⟨.pos em ?_,.pos ex ?_,em,ex,?_⟩
 ·intro e;rw[e] at m1;exact no_pI h.1 h.2.1 h'.1 h'.2.1 l1 u1 l2 u2 (pI_ele k.1 m1.2.1) (pI_ele k.2.1 m1.2.2.1) (pI_ele k.2.2.1 m1.2.2.2.1) (pI_ele k.2.2.2 m1.2.2.2.2)
 ·intro e;rw[e] at m2;have n1:=etm_mI h.1 h'.1 (ele_mI_eq k.1 m2.2.1);have n2:=etm_mI h.1 h'.2.1 (ele_mI_eq k.2.1 m2.2.2.1);have n3:=etm_mI h.2.1 h'.1 (ele_mI_eq k.2.2.1 m2.2.2.2.1);have n4:=etm_mI h.2.1 h'.2.1 (ele_mI_eq k.2.2.2 m2.2.2.2.2)
  have la:LoE (eneg a.2.1):=by
   rcases u1 with u | u
   ·exact .inl (by unfold eneg;rw[if_pos u])
   ·rw[u];exact .inr rfl
  have ua:HiE (eneg a.1):=by
   rcases l1 with u | u
   ·exact .inl (by unfold eneg;rw[if_pos u])
   ·rw[u];exact .inr rfl
  exact no_pI h.2.1.neg h.1.neg h'.1 h'.2.1 la ua l2 u2 n3 n4 n1 n2
 ·exact ele_trans em k.1 ex m1.2.1 m2.2.1
theorem mkS_of{S:Ts}(hl:LoE S.1)(hu:HiE S.2.1)(he:S.2.2=false):S=mkS S.1.2 S.2.1.2 (S.1.1 != 0) (S.2.1.1 != 0):=by
 obtain⟨⟨i,t⟩,⟨j,u⟩,e⟩:=S;have he:e=false:=he;subst he
 have h1:(i,t)=if (i != 0) then (-1,false,0,0) else (0,t):=by
  rcases hl with h | h
  ·have h:i=0:=h;subst h;rfl
  ·have h:(i,t)=(-1,false,0,0):=h;rw[Prod.mk.injEq] at h;obtain⟨rfl,rfl⟩:=h;rfl
 have h2:(j,u)=if (j != 0) then (1,false,0,0) else (0,u):=by
  rcases hu with h | h
  ·have h:j=0:=h;subst h;rfl
  ·have h:(j,u)=(1,false,0,0):=h;rw[Prod.mk.injEq] at h;obtain⟨rfl,rfl⟩:=h;rfl
 unfold mkS;exact Prod.ext h1 (Prod.ext h2 rfl)
theorem pord_of{S:Ts}(h:SF S):pord S.1.2 S.2.1.2 (S.1.1 != 0) (S.2.1.1 != 0):=by
 obtain⟨⟨i,t⟩,⟨j,u⟩,e⟩:=S;obtain⟨h1,h2,h3⟩:=h
 have f:∀{i:Int} {t:Tq},EF (i,t)→(i != 0)=false→i=0∧IsFr t:=by
  intro i t h k
  have k:i=0:=by simpa using k
  rcases h with ⟨t',ht,e⟩ | e | e
  ·rw[Prod.mk.injEq] at e;rw[e.2];exact⟨k,ht⟩
  ·rw[Prod.mk.injEq] at e;exact absurd (e.1.symm.trans k) (by decide)
  ·rw[Prod.mk.injEq] at e;exact absurd (e.1.symm.trans k) (by decide)
 refine⟨fun k=>(f h1 k).2,fun k=>(f h2 k).2,fun k k'=>?_⟩;have e1:=(f h1 k).1;have e2:=(f h2 k').1;subst e1 e2;exact ele_fin.1 h3
theorem mkS_lo(A B:Tq)(x y:Bool):LoE (mkS A B x y).1∧HiE (mkS A B x y).2.1:=by
 cases x<;>cases y
 ·exact⟨.inl rfl,.inl rfl⟩
 ·exact⟨.inl rfl,.inr rfl⟩
 ·exact⟨.inr rfl,.inl rfl⟩
 ·exact⟨.inr rfl,.inr rfl⟩
theorem mkS_sf{A B:Tq}{x y:Bool}(h:pord A B x y):SF (mkS A B x y):=by
 obtain⟨h1,h2,h3⟩:=h
 cases x<;>cases y
 ·exact⟨.inl ⟨_,h1 rfl,rfl⟩,.inl ⟨_,h2 rfl,rfl⟩,ele_fin.2 (h3 rfl rfl)⟩
 ·exact⟨.inl ⟨_,h1 rfl,rfl⟩,pI_ef,ele_pI (.inl ⟨_,h1 rfl,rfl⟩)⟩
 ·exact⟨mI_ef,.inl ⟨_,h2 rfl,rfl⟩,ele_mI (.inl ⟨_,h2 rfl,rfl⟩)⟩
 ·exact⟨mI_ef,pI_ef,ele_mI pI_ef⟩
theorem zrel.zs{A lo:Tq}{x:Bool}(h:zrel A x lo)(q:x=false→QFit A):lo.2.1=0→lo.1=false:=by
 cases x
 ·rcases h with rfl | ⟨rfl,_⟩
  ·exact(q rfl).1.zs
  ·exact fun _=>rfl
 ·have h:lo=(false,0,0):=h;subst h
  exact fun _=>rfl
theorem spow_form{a b:Tq}{x y:Bool}{n:Int}(he:(srd (a,b,x,y)).2.2=false)(hk:pzero n (srd (a,b,x,y))=false):
  ∃P Q X Y,spow (srd (a,b,x,y)) n=mkS P Q X Y∧pord P Q X Y:=by
 have ho:=srd_ord he;unfold pzero at hk;unfold spow;rw[srd_mk he] at hk ⊢
 rcases Int.lt_trichotomy n 0 with h0 | h0 | h0
 ·rw[if_neg (by omega),if_pos h0];rw[decide_eq_true h0,Bool.true_and] at hk;rw[sinv_mk,spos_mk];exact⟨_,_,_,_,rfl,ppos_ord (pinv_ord ho (szero_mk hk))⟩
 ·rw[if_pos h0];exact⟨(false,1,1),(false,1,1),false,false,rfl,fun _=>⟨false,1,1,by decide,rfl⟩,fun _=>⟨false,1,1,by decide,rfl⟩,fun _ _=>by decide+kernel⟩
 ·rw[if_neg (by omega),if_neg (by omega)];rw[spos_mk];exact⟨_,_,_,_,rfl,ppos_ord ho⟩
def JW (A:Nat) (r:Tj):Prop:=r=jnone∨(JFr r∧(r.1.2.1 < W32 ^ A∧r.1.2.2 < W32 ^ A)∧(r.2.1.2.1 < W32 ^ A∧r.2.1.2.2 < W32 ^ A))
theorem JGood.wide{r:Tj}(h:JGood r):JW 64 r:=by
 by_cases he:r.2.2.2.2=true
 ·rcases h with h | ⟨h,_⟩
  ·exact .inl h
  ·rw[he] at h;exact absurd h (by decide)
 ·have hf:=h.fr (by simpa using he)
  rcases h with h | ⟨_,hl,hh,_⟩
  ·exact .inl h
  ·refine .inr ⟨hf,?_,?_⟩
   ·rcases hl with ⟨_,hl⟩ | ⟨_,hl⟩
    ·rw[hl];exact⟨Nat.pow_pos W32_pos,Nat.pow_pos W32_pos⟩
    ·exact hl.2
   ·rcases hh with ⟨_,hl⟩ | ⟨_,hl⟩
    ·rw[hl];exact⟨Nat.pow_pos W32_pos,Nat.pow_pos W32_pos⟩
    ·exact hl.2
theorem JW.bd{r:Tj}(h:JW 400 r){p:Nat}(hp:p≤128):JBd (jround r p):=by
 rcases h with rfl | ⟨⟨he,hl,hh,_⟩,h1,h2⟩
 ·exact⟨⟨b16_0,b16_0⟩,b16_0,b16_0⟩
 ·unfold jround;rw[he];refine⟨?_,?_⟩
  ·rcases hl with ⟨g1,g2⟩ | ⟨g1,g2⟩
   ·show(if r.2.2.1 then r.1 else gdn r.1 p).2.1 < _∧(if r.2.2.1 then r.1 else gdn r.1 p).2.2 < _;rw[g1,g2];exact⟨b16_0,b16_0⟩
   ·show(if r.2.2.1 then r.1 else gdn r.1 p).2.1 < _∧(if r.2.2.1 then r.1 else gdn r.1 p).2.2 < _;rw[g1];have:=gdn_100a (A:=400) h1.1 (by omega) hp;exact⟨b16_100k this.1,b16_100k this.2⟩
  ·rcases hh with ⟨g1,g2⟩ | ⟨g1,g2⟩
   ·show(if r.2.2.2.1 then r.2.1 else gup r.2.1 p).2.1 < _∧(if r.2.2.2.1 then r.2.1 else gup r.2.1 p).2.2 < _;rw[g1,g2];exact⟨b16_0,b16_0⟩
   ·show(if r.2.2.2.1 then r.2.1 else gup r.2.1 p).2.1 < _∧(if r.2.2.2.1 then r.2.1 else gup r.2.1 p).2.2 < _;rw[g1];have:=gup_100a (A:=400) h2.1 (by omega) hp;exact⟨b16_100k this.1,b16_100k this.2⟩
def jplus (r t:Tj):Tj:=if r.2.2.2.2 || t.2.2.2.2 then jnone else (if r.2.2.1 || t.2.2.1 then (false,0,0) else fadd r.1 t.1,if r.2.2.2.1 || t.2.2.2.1 then (false,0,0) else fadd r.2.1 t.2.1,r.2.2.1 || t.2.2.1,r.2.2.2.1 || t.2.2.2.1,false)
theorem self_FQ{t:Tq}(h:0 < t.2.2):FQ t (sv t.1 t.2.1) (t.2.2:Int):=⟨by omega,h,rfl⟩
theorem fadd_mono{a b a' b':Tq}(ha:IsFr a)(hb:IsFr b)(ha':IsFr a')(hb':IsFr b')(h:fcmp a a'≤0)(h':fcmp b b'≤0):fcmp (fadd a b) (fadd a' b')≤0:=by
 have p1:(0:Int) < (a.2.2:Int):=by have:=ha.pos;omega
 have p2:(0:Int) < (b.2.2:Int):=by have:=hb.pos;omega
 have p3:(0:Int) < (a'.2.2:Int):=by have:=ha'.pos;omega
 have p4:(0:Int) < (b'.2.2:Int):=by have:=hb'.pos;omega
 rw[fcmp_Q (fadd_FQ (self_FQ ha.pos) (self_FQ hb.pos)) (fadd_FQ (self_FQ ha'.pos) (self_FQ hb'.pos)) (Int.mul_pos p1 p2) (Int.mul_pos p3 p4)];rw[fcmp_nonpos] at h h';generalize(a.2.2:Int)=da at *;generalize(b.2.2:Int)=db at *;generalize(a'.2.2:Int)=ea at *;generalize(b'.2.2:Int)=eb at *;generalize sv a.1 a.2.1=sa at *;generalize sv b.1 b.2.1=sb at *;generalize sv a'.1 a'.2.1=ta at *;generalize sv b'.1 b'.2.1=tb at *;have k1:sa*ea*(db*eb)≤ta*da*(db*eb):=Int.mul_le_mul_of_nonneg_right h (Int.le_of_lt (Int.mul_pos p2 p4));have k2:sb*eb*(da*ea)≤tb*db*(da*ea):=Int.mul_le_mul_of_nonneg_right h' (Int.le_of_lt (Int.mul_pos p1 p3))
 have e1:(sa*db+sb*da)*(ea*eb)=sa*ea*(db*eb)+sb*eb*(da*ea):=by
  simp only[Int.mul_add,Int.mul_comm,Int.mul_left_comm]
 have e2:(ta*eb+tb*ea)*(da*db)=ta*da*(db*eb)+tb*db*(da*ea):=by
  simp only[Int.mul_add,Int.mul_comm,Int.mul_left_comm]
 rw[e1,e2];unfold cmpI
 split
 ·decide
 ·split
  ·omega
  ·decide
theorem JW.plus{A:Nat}(hA:130≤A){r t:Tj}(hr:JGood r)(ht:JGood t):JW A (jplus r t):=by
 unfold jplus;cases hre:r.2.2.2.2
 ·cases hte:t.2.2.2.2
  ·have fr1:=hr.fr hre;have fr2:=ht.fr hte
   rcases hr.wide with w1 | ⟨_,b1,b2⟩
   ·rw[w1] at hre;exact absurd hre (by decide)
   rcases ht.wide with w2 | ⟨_,b3,b4⟩
   ·rw[w2] at hte;exact absurd hte (by decide)
   have q1:(r.2.2.1 || t.2.2.1)=false→IsFr r.1∧IsFr t.1:=by
    intro hx;rw[Bool.or_eq_false_iff] at hx
    rcases fr1.2.1 with ⟨hq,_⟩ | ⟨_,q1⟩
    ·rw[hx.1] at hq;exact absurd hq (by decide)
    rcases fr2.2.1 with ⟨hq,_⟩ | ⟨_,q2⟩
    ·rw[hx.2] at hq;exact absurd hq (by decide)
    exact⟨q1,q2⟩
   have q2:(r.2.2.2.1 || t.2.2.2.1)=false→IsFr r.2.1∧IsFr t.2.1:=by
    intro hx;rw[Bool.or_eq_false_iff] at hx
    rcases fr1.2.2.1 with ⟨hq,_⟩ | ⟨_,q1⟩
    ·rw[hx.1] at hq;exact absurd hq (by decide)
    rcases fr2.2.2.1 with ⟨hq,_⟩ | ⟨_,q2⟩
    ·rw[hx.2] at hq;exact absurd hq (by decide)
    exact⟨q1,q2⟩
   have m1:=faddI_b b1.1 b1.2 b3.1 b3.2;have m2:=faddI_b b2.1 b2.2 b4.1 b4.2;refine .inr ⟨⟨rfl,?_,?_,?_⟩,?_,?_⟩
   ·cases hx:(r.2.2.1 || t.2.2.1)
    ·exact .inr ⟨rfl,IsFr.add (q1 hx).1.pos (q1 hx).2.pos⟩
    ·exact .inl ⟨rfl,rfl⟩
   ·cases hx:(r.2.2.2.1 || t.2.2.2.1)
    ·exact .inr ⟨rfl,IsFr.add (q2 hx).1.pos (q2 hx).2.pos⟩
    ·exact .inl ⟨rfl,rfl⟩
   ·intro hx hy;have hx':(r.2.2.1 || t.2.2.1)=false:=hx;have hy':(r.2.2.2.1 || t.2.2.2.1)=false:=hy;show fcmp (if r.2.2.1 || t.2.2.1 then (false,0,0) else fadd r.1 t.1) (if r.2.2.2.1 || t.2.2.2.1 then (false,0,0) else fadd r.2.1 t.2.1)≤0;rw[hx',hy'];have hx2:=hx';have hy2:=hy';rw[Bool.or_eq_false_iff] at hx2 hy2;exact fadd_mono (q1 hx').1 (q1 hx').2 (q2 hy').1 (q2 hy').2 (fr1.2.2.2 hx2.1 hy2.1) (fr2.2.2.2 hx2.2 hy2.2)
   ·show(if r.2.2.1 || t.2.2.1 then (false,0,0) else fadd r.1 t.1).2.1 < _∧(if r.2.2.1 || t.2.2.1 then (false,0,0) else fadd r.1 t.1).2.2 < _
    split
    ·exact⟨Nat.pow_pos W32_pos,Nat.pow_pos W32_pos⟩
    ·exact⟨lt_pow m1.1 (by omega),lt_pow m1.2 (by omega)⟩
   ·show(if r.2.2.2.1 || t.2.2.2.1 then (false,0,0) else fadd r.2.1 t.2.1).2.1 < _∧(if r.2.2.2.1 || t.2.2.2.1 then (false,0,0) else fadd r.2.1 t.2.1).2.2 < _
    split
    ·exact⟨Nat.pow_pos W32_pos,Nat.pow_pos W32_pos⟩
    ·exact⟨lt_pow m2.1 (by omega),lt_pow m2.2 (by omega)⟩
  ·exact .inl rfl
 ·exact .inl rfl
def Sim (S:Ts) (J:Tj):Prop:=∃A B x y,S=(if x then (-1,false,0,0) else (0,A),if y then (1,false,0,0) else (0,B),false)∧J=(if x then (false,0,0) else A,if y then (false,0,0) else B,x,y,false)
theorem Sim.of{a b:Tq}{x y:Bool}(he:(srd (a,b,x,y)).2.2=false):Sim (srd (a,b,x,y)) (jof (a,b,x,y)):=by
 refine⟨fr a,fr b,x,y,?_,jof_in he⟩;have e:srd (a,b,x,y)=((srd (a,b,x,y)).1,(srd (a,b,x,y)).2.1,(srd (a,b,x,y)).2.2):=rfl;rw[e,he];rfl
theorem Sim.plus{S T:Ts}{J K:Tj}(h:Sim S J)(h':Sim T K):Sim (splus S T) (jplus J K):=by
 obtain⟨A,B,x,y,rfl,rfl⟩:=h;obtain⟨A',B',x',y',rfl,rfl⟩:=h'
 refine⟨fadd A A',fadd B B',x || x',y || y',?_,?_⟩<;>cases x<;>cases y<;>cases x'<;>cases y'<;>rfl
theorem Sim.neg{S:Ts}{J:Tj}(h:Sim S J):Sim (sneg S) (jminus J):=by
 obtain⟨A,B,x,y,rfl,rfl⟩:=h
 refine⟨fneg B,fneg A,y,x,?_,?_⟩<;>cases x<;>cases y<;>rfl
theorem b_one(A:Nat)(h:A≠0):1 < B16 ^ A:=Nat.one_lt_pow h (by decide)
theorem b_pos(A:Nat):0 < B16 ^ A:=Nat.pow_pos (by decide)
def TBd (A:Nat) (t:Int×Tq):Prop:=t.2.2.1 < B16 ^ A∧den1 t.2.2.2 < B16 ^ A
theorem TBd.inf(A:Nat)(h:A≠0)(i:Int):TBd A (i,false,0,0):=⟨b_pos A,b_one A h⟩
theorem zrel.raw{P lo:Tq}(h:zrel P false lo)(hP:IsFr P):lo=(P.1,P.2.1,lo.2.2)∧den1 lo.2.2=P.2.2:=by
 rcases h with rfl | ⟨rfl,rfl⟩
 ·exact⟨rfl,den1_self hP.pos⟩
 ·exact⟨rfl,rfl⟩
theorem set_form{S T:Ts}{A B C D:Tq}{x y u v:Bool}(hS:S=mkS A B x y)(hT:T=mkS C D u v)(o:pord A B x y)(o':pord C D u v):∃P Q X Y,stm S T=mkS P Q X Y∧pord P Q X Y:=by
 subst hS hT;have sa:=mkS_sf o;have sb:=mkS_sf o';have la:=mkS_lo A B x y;have lb:=mkS_lo C D u v;obtain⟨h1,h2,hs⟩:=stm_lohi sa sb la.1 la.2 lb.1 lb.2;exact⟨_,_,_,_,mkS_of h1 h2 (stm_ends sa sb).2,pord_of hs⟩
theorem stm_form{a b a' b':Tq}{x y x' y':Bool}(he:(srd (a,b,x,y)).2.2=false)(he':(srd (a',b',x',y')).2.2=false):∃P Q X Y,stm (srd (a,b,x,y)) (srd (a',b',x',y'))=mkS P Q X Y∧pord P Q X Y:=
 set_form (srd_mk he) (srd_mk he') (srd_ord he) (srd_ord he')
abbrev Jt:=Tj
abbrev It:=Ti
abbrev St:=Ts
theorem mins{L M c1 c2 c3 c4:Int×Tq}(h:IsMin L c1 c2 c3 c4)(h':IsMin M c1 c2 c3 c4)(k:E4 c1 c2 c3 c4):L=M:=by
 refine ele_anti (h.ef k) (h'.ef k) ?_ ?_
 ·rcases h'.1 with rfl | rfl | rfl | rfl
  ·exact h.2.1
  ·exact h.2.2.1
  ·exact h.2.2.2.1
  ·exact h.2.2.2.2
 ·rcases h.1 with rfl | rfl | rfl | rfl
  ·exact h'.2.1
  ·exact h'.2.2.1
  ·exact h'.2.2.2.1
  ·exact h'.2.2.2.2
theorem maxs{L M c1 c2 c3 c4:Int×Tq}(h:IsMax L c1 c2 c3 c4)(h':IsMax M c1 c2 c3 c4)(k:E4 c1 c2 c3 c4):L=M:=by
 refine ele_anti (h.ef k) (h'.ef k) ?_ ?_
 ·rcases h.1 with rfl | rfl | rfl | rfl
  ·exact h'.2.1
  ·exact h'.2.2.1
  ·exact h'.2.2.2.1
  ·exact h'.2.2.2.2
 ·rcases h'.1 with rfl | rfl | rfl | rfl
  ·exact h.2.1
  ·exact h.2.2.1
  ·exact h.2.2.2.1
  ·exact h.2.2.2.2
theorem fpow_sq{t:Tq}(h:IsFr t):fpow t 2=fmul t t:=by
 refine(fcmp_zero_iff (h.pow 2) (IsFr.mul h.pos h.pos)).1 ?_
 have p:(0:Int) < (t.2.2:Int):=by have:=h.pos;omega
 have q:(0:Int) < (t.2.2:Int)*(t.2.2:Int):=Int.mul_pos p p
 have e:sv t.1 t.2.1*sv t.1 t.2.1=((t.2.1:Nat):Int)*((t.2.1:Nat):Int):=by
  unfold sv
  split
  ·exact Int.neg_mul_neg _ _
  ·rfl
 have f1:FQ (fpow t 2) (sv t.1 t.2.1*sv t.1 t.2.1) ((t.2.2:Int)*(t.2.2:Int)):=by
  refine⟨Int.ne_of_gt q,Nat.pow_pos h.pos,?_⟩;rw[e];show sv (t.1 && false) (t.2.1 ^ 2)*_=_*((t.2.2 ^ 2:Nat):Int);rw[Bool.and_false,Nat.pow_two,Nat.pow_two,Int.natCast_mul];show((t.2.1*t.2.1:Nat):Int)*_=_;rw[Int.natCast_mul]
 rw[fcmp_Q f1 (fmul_FQ (self_FQ h.pos) (self_FQ h.pos)) q q];unfold cmpI;rw[if_neg (Int.lt_irrefl _),if_neg (Int.lt_irrefl _)]
theorem epw_sq{x:Int×Tq}(h:EF x)(h0:0≤esgn x):epw x 2=etm x x:=by
 rcases h with ⟨t,ht,rfl⟩ | rfl | rfl
 ·rw[etm_fin ht ht,←fpow_sq ht];rfl
 ·decide
 ·exact absurd h0 (by decide)
theorem ele_zero{y:Int×Tq}(hy:EF y)(h:0≤esgn y):ele (0,false,0,1) y:=by
 rcases hy with ⟨t,ht,rfl⟩ | rfl | rfl
 ·refine ele_fin.2 (fcmp_zero_le ?_)
  have h':(0:Int)≤if t.1 then -1 else if t.2.1=0 then 0 else 1:=h
  show(0:Int)≤if t.1 then -((t.2.1:Nat):Int) else ((t.2.1:Nat):Int)
  cases hs:t.1
  ·exact Int.natCast_nonneg _
  ·rw[hs] at h';exact absurd (show(0:Int)≤-1 from h') (by decide)
 ·exact ele_pI (.inl ⟨_,isFr_zero,rfl⟩)
 ·exact absurd h (by decide)
theorem etm_twice{x:Int×Tq}(h:EF x):etm (eneg x) (eneg x)=etm x x:=by
 rw[etm_neg h h.neg,etm_comm x,etm_neg h h,eneg_two (h.times h)]
theorem stm_sq{a:St}(h:SF a)(h0:0≤esgn a.1):stm a a=(etm a.1 a.1,etm a.2.1 a.2.1,false):=by
 have k:=stm_ends h h;have f:=h.four h;obtain⟨h1,h2,hl⟩:=h;have g0:0≤esgn a.2.1:=Int.le_trans h0 (esgn_mono h1 h2 hl);have m1:=etm_mono h1 h1 h2 h0 hl;have m2:=etm_mono' h2 h1 h2 g0 hl;have m3:=etm_mono' h1 h1 h2 h0 hl;have e12:=h1.times h2;have e11:=h1.times h1;have e22:=h2.times h2;have e21:=h2.times h1;have m4:=etm_mono h2 h1 h2 g0 hl;have t:=ele_trans e11 e12 e22 m1 m2;have x1:IsMin (etm a.1 a.1) (etm a.1 a.1) (etm a.1 a.2.1) (etm a.2.1 a.1) (etm a.2.1 a.2.1):=⟨.inl rfl,ele_refl e11,m1,m3,t⟩;have x2:IsMax (etm a.2.1 a.2.1) (etm a.1 a.1) (etm a.1 a.2.1) (etm a.2.1 a.1) (etm a.2.1 a.2.1):=⟨.inr (.inr (.inr rfl)),t,m2,m4,ele_refl e22⟩;exact Prod.ext (mins k.1.1 x1 f) (Prod.ext (maxs k.1.2 x2 f) k.2)
theorem sabs_sf{a:St}(h:SF a):SF (sabs a)∧0≤esgn (sabs a).1:=by
 unfold sabs
 split
 case isTrue g=>exact⟨h,g⟩
 split
 case isTrue g=>
  refine⟨h.neg,?_⟩;show 0≤esgn (eneg a.2.1);rw[esgn_neg h.2.1];omega
 case isFalse g1 g2=>
  have k:=emax_two h.1.neg h.2.1
  have e:EF (emax (eneg a.1) a.2.1):=by
   rcases k.1 with e | e
   ·rw[e];exact h.1.neg
   ·rw[e];exact h.2.1
  have s:=esgn_mono h.2.1 e k.2.2
  have s0:0≤esgn (emax (eneg a.1) a.2.1):=by omega
  exact⟨⟨.inl ⟨_,isFr_zero,rfl⟩,e,ele_zero e s0⟩,show(0:Int)≤esgn (0,false,0,1) by decide⟩
theorem spow_sq{a:St}(h:SF a):spow a 2=stm (sabs a) (sabs a):=by
 have k:=sabs_sf h;rw[stm_sq k.1 k.2];show(epw (sabs a).1 2,epw (sabs a).2.1 2,false)=_;rw[epw_sq k.1.1 k.2,epw_sq k.1.2.1 (Int.le_trans k.2 (esgn_mono k.1.1 k.1.2.1 k.1.2.2))]
theorem sq_in{a:St}(h:SF a):ele (stm a a).1 (spow a 2).1∧ele (spow a 2).2.1 (stm a a).2.1:=by
 have k:=(stm_ends h h).1;have f:=h.four h;have q:=sabs_sf h;rw[spow_sq h,stm_sq q.1 q.2];have h1:=h.1;have h2:=h.2.1;show ele (stm a a).1 (etm (sabs a).1 (sabs a).1)∧ele (etm (sabs a).2.1 (sabs a).2.1) (stm a a).2.1;unfold sabs
 split
 case isTrue g=>exact⟨k.1.2.1,k.2.2.2.2.2⟩
 split
 case isTrue g=>
  show ele (stm a a).1 (etm (eneg a.2.1) (eneg a.2.1))∧ele (etm (eneg a.1) (eneg a.1)) (stm a a).2.1;rw[etm_twice h1,etm_twice h2];exact⟨k.1.2.2.2.2,k.2.2.1⟩
 case isFalse g1 g2=>
  have z:EF (0,false,0,1):=.inl ⟨_,isFr_zero,rfl⟩;constructor
  ·have z0:∀x,EF x→etm x (0,false,0,1)=(0,false,0,1):=fun x _=>by
    unfold etm;rw[show esgn (0,false,0,1)=0 from rfl,Int.mul_zero,if_pos rfl]
   have t:=etm_turn h1 z h2 (by omega) (ele_zero h2 (by omega));rw[z0 _ h1] at t;show ele (stm a a).1 (etm (0,false,0,1) (0,false,0,1));rw[z0 _ z];exact ele_trans (k.1.ef f) (h1.times h2) z k.1.2.2.1 t
  ·show ele (etm (emax (eneg a.1) a.2.1) (emax (eneg a.1) a.2.1)) (stm a a).2.1
   rcases(emax_two h1.neg h2).1 with e | e
   ·rw[e,etm_twice h1];exact k.2.2.1
   ·rw[e];exact k.2.2.2.2.2
end Go.Proofs.YteblinkehldghaaGreatDoor
