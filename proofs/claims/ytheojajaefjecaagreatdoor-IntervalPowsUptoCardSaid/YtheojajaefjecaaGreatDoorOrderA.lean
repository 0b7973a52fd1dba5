/- What triples denote: rational numbers as pairs of integers. -/
import Derived.Test.YtheojajaefjecaaGreatDoorNumX
import Derived.Test.YtheojajaefjecaaGreatDoorRefX
namespace Go.Proofs.YtheojajaefjecaaGreatDoor
open Go.RowKit Dg
def FQ (a:Tq) (p q:Int):Prop:=q≠0∧0 < a.2.2∧sv a.1 a.2.1*q=p*(a.2.2:Int)
def IsQ (a:Tq) (p q:Int):Prop:=q≠0∧sv a.1 a.2.1*q=p*(den1 a.2.2:Int)
theorem sv_mul(s:Bool)(n m:Nat):sv s (n*m)=sv s n*m:=by
 unfold sv;cases s<;>simp [Int.neg_mul]
theorem sv_sign(s:Bool)(n:Nat)(m:Nat)(h:n=0→m=0):sv (s && decide (n≠0)) m=sv s m:=by
 by_cases h0:n=0
 ·rw[h h0];unfold sv;simp
 ·simp [h0]
theorem frac_FQ{s:Bool}{n d:Nat}{p q:Int}(hd:0 < d)(hq:q≠0)(h:sv s n*q=p*(d:Int)):FQ (frac s n d) p q:=by
 have hg0:0 < Nat.gcd n d:=Nat.gcd_pos_of_pos_right _ hd;obtain⟨n',hn⟩:=Nat.gcd_dvd_left n d;obtain⟨d',hd'⟩:=Nat.gcd_dvd_right n d;unfold FQ frac;simp only;generalize Nat.gcd n d=g at *;subst hn hd';rw[Nat.mul_div_cancel_left _ hg0,Nat.mul_div_cancel_left _ hg0];refine⟨hq,Nat.pos_of_mul_pos_left hd,?_⟩;rw[sv_sign _ _ _ (fun h=>by rcases Nat.mul_eq_zero.1 h with h | h<;>omega)];rw[Nat.mul_comm g n',sv_mul,Nat.mul_comm g d',Int.natCast_mul] at h
 have hg:(g:Int)≠0:=by omega
 have h2:(g:Int)*(sv s n'*q)=(g:Int)*(p*(d':Int)):=by
  calc (g:Int)*(sv s n'*q)=sv s n'*g*q:=by grind
   _=p*((d':Int)*g):=h
   _=(g:Int)*(p*(d':Int)):=by grind
 exact Int.eq_of_mul_eq_mul_left hg h2
theorem fneg_FQ{a:Tq}{p q:Int}(h:FQ a p q):FQ (fneg a) (-p) q:=by
 refine⟨h.1,h.2.1,?_⟩;show sv (!a.1 && decide (a.2.1≠0)) a.2.1*q=-p*(a.2.2:Int);rw[sv_sign _ _ _ id];have h3:=h.2.2
 have:sv (!a.1) a.2.1=- sv a.1 a.2.1:=by unfold sv;cases a.1<;>simp
 rw[this,Int.neg_mul,Int.neg_mul,h3]
theorem IsQ.same{a b:Tq}{p q p' q':Int}(h:IsQ a p q)(h':IsQ b p' q')(e:p*q'=p'*q):SameQ a.1 a.2.1 a.2.2 b.1 b.2.1 b.2.2:=by
 have ha:=den1_pos a.2.2;have hb:=den1_pos b.2.2;have h1:=h.2;have h2:=h'.2
 have key:sv a.1 a.2.1*(den1 b.2.2:Int)=sv b.1 b.2.1*(den1 a.2.2:Int):=by
  have h3:(q*q')*(sv a.1 a.2.1*(den1 b.2.2:Int))=(q*q')*(sv b.1 b.2.1*(den1 a.2.2:Int)):=by
   calc (q*q')*(sv a.1 a.2.1*(den1 b.2.2:Int))=(sv a.1 a.2.1*q)*q'*(den1 b.2.2:Int):=by grind
    _=(p*(den1 a.2.2:Int))*q'*(den1 b.2.2:Int):=by rw[h1]
    _=(p*q')*(den1 a.2.2:Int)*(den1 b.2.2:Int):=by grind
    _=(p'*q)*(den1 a.2.2:Int)*(den1 b.2.2:Int):=by rw[e]
    _=(p'*(den1 b.2.2:Int))*q*(den1 a.2.2:Int):=by grind
    _=(sv b.1 b.2.1*q')*q*(den1 a.2.2:Int):=by rw[h2]
    _=(q*q')*(sv b.1 b.2.1*(den1 a.2.2:Int)):=by grind
  exact Int.eq_of_mul_eq_mul_left (Int.mul_ne_zero h.1 h'.1) h3
 rw[←sv_mul,←sv_mul] at key;unfold SameQ
 have z1:a.2.1*den1 b.2.2=0↔a.2.1=0:=by rw[Nat.mul_eq_zero];omega
 have z2:b.2.1*den1 a.2.2=0↔b.2.1=0:=by rw[Nat.mul_eq_zero];omega
 generalize a.2.1*den1 b.2.2=X at *;generalize b.2.1*den1 a.2.2=Y at *;unfold sv at key
 by_cases c1:a.2.1=0
 ·have x0:=z1.2 c1;subst x0
  have:Y=0:=by cases a.1<;>cases b.1<;>simp at key<;>omega
  exact .inl ⟨c1,z2.1 this⟩
 ·have x0:X≠0:=fun h=>c1 (z1.1 h)
  have y0:Y≠0:=by intro h;subst h;cases a.1<;>cases b.1<;>simp at key<;>omega
  refine .inr ⟨c1,fun h=>y0 (z2.2 h),?_⟩
  cases ha1:a.1<;>cases hb1:b.1<;>simp [ha1,hb1] at key ⊢<;>omega
def NRep (w:World) (v:Value) (a:Tq):Prop:=ARep w v a.1 a.2.1 a.2.2
theorem NRep.below{w w':World}{v:Value}{a:Tq}(h:NRep w v a)(hb:Bw w w'):NRep w' v a:=ARep.below h hb
def fr (a:Tq):Tq:=frac a.1 a.2.1 (den1 a.2.2)
def Few (a:Tq):Prop:=a.2.1 < W32 ^ 256∧a.2.2 < W32 ^ 256
theorem few_large{a:Tq}(h:large a.2.1 a.2.2=false):Few a:=by
 unfold large at h;rw[Bool.or_eq_false_iff] at h;have:=of_decide_eq_false h.1;exact⟨by omega,by omega⟩
theorem cmpI_scale{a b k:Int}(hk:0 < k):cmpI (k*a) (k*b)=cmpI a b:=by
 unfold cmpI
 rcases Int.lt_trichotomy a b with h | h | h
 ·rw[if_pos (Int.mul_lt_mul_of_pos_left h hk),if_pos h]
 ·subst h;simp
 ·have h2:=Int.mul_lt_mul_of_pos_left h hk;rw[if_neg (show ¬k*a < k*b by omega),if_pos h2,if_neg (show ¬a < b by omega),if_pos h]
theorem fcmp_Q{a b:Tq}{p q p' q':Int}(h:FQ a p q)(h':FQ b p' q')(hq:0 < q)(hq':0 < q'):fcmp a b=cmpI (p*q') (p'*q):=by
 unfold fcmp;have h1:=h.2.2;have h2:=h'.2.2;have hd:=h.2.1;have hd':=h'.2.1;rw[←cmpI_scale (Int.mul_pos hq hq'),←cmpI_scale (a:=p*q') (Int.mul_pos (show(0:Int) < a.2.2 by omega) (show(0:Int) < b.2.2 by omega))]
 have e1:q*q'*(sv a.1 a.2.1*(b.2.2:Int))=(a.2.2:Int)*(b.2.2:Int)*(p*q'):=by
  calc q*q'*(sv a.1 a.2.1*(b.2.2:Int))=(sv a.1 a.2.1*q)*q'*(b.2.2:Int):=by grind
   _=(p*(a.2.2:Int))*q'*(b.2.2:Int):=by rw[h1]
   _=(a.2.2:Int)*(b.2.2:Int)*(p*q'):=by grind
 have e2:q*q'*(sv b.1 b.2.1*(a.2.2:Int))=(a.2.2:Int)*(b.2.2:Int)*(p'*q):=by
  calc q*q'*(sv b.1 b.2.1*(a.2.2:Int))=(sv b.1 b.2.1*q')*q*(a.2.2:Int):=by grind
   _=(p'*(b.2.2:Int))*q*(a.2.2:Int):=by rw[h2]
   _=(a.2.2:Int)*(b.2.2:Int)*(p'*q):=by grind
 rw[e1,e2]
end Go.Proofs.YtheojajaefjecaaGreatDoor
