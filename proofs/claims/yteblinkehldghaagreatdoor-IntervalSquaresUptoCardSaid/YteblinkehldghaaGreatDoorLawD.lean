/- What triples denote: rational numbers as pairs of integers. -/
import Derived.Test.YteblinkehldghaaGreatDoorNumX
import Derived.Test.YteblinkehldghaaGreatDoorRefX
import Derived.Test.YteblinkehldghaaGreatDoorRefT
namespace Go.Proofs.YteblinkehldghaaGreatDoor
open Go.RowKit Dg
open Nat renaming le_refl→Lr
open Below renaming refl→Br
def FQ (a:Tq) (p q:Int):Prop:=q≠0∧0 < a.2.2∧sv a.1 a.2.1*q=p*(a.2.2:Int)
def IsQ (a:Tq) (p q:Int):Prop:=q≠0∧sv a.1 a.2.1*q=p*(den1 a.2.2:Int)
theorem sv_mul(s:Bool)(n m:Nat):sv s (n*m)=sv s n*m:=by
 unfold sv;cases s<;>simp [Int.neg_mul]
theorem sv_sign(s:Bool)(n:Nat)(m:Nat)(h:n=0→m=0):sv (s && decide (n≠0)) m=sv s m:=by
 by_cases h0:n=0
 ·rw[h h0];unfold sv;simp
 ·simp [h0]
theorem IsQ.self(a:Tq):IsQ a (sv a.1 a.2.1) (den1 a.2.2):=by
 have:=den1_pos a.2.2;exact⟨by omega,rfl⟩
theorem frac_FQ{s:Bool}{n d:Nat}{p q:Int}(hd:0 < d)(hq:q≠0)(h:sv s n*q=p*(d:Int)):FQ (frac s n d) p q:=by
 have hg0:0 < Nat.gcd n d:=Nat.gcd_pos_of_pos_right _ hd;obtain⟨n',hn⟩:=Nat.gcd_dvd_left n d;obtain⟨d',hd'⟩:=Nat.gcd_dvd_right n d;unfold FQ frac;simp only;generalize Nat.gcd n d=g at *;subst hn hd';rw[Nat.mul_div_cancel_left _ hg0,Nat.mul_div_cancel_left _ hg0];refine⟨hq,Nat.pos_of_mul_pos_left hd,?_⟩;rw[sv_sign _ _ _ (fun h=>by rcases Nat.mul_eq_zero.1 h with h | h<;>omega)];rw[Nat.mul_comm g n',sv_mul,Nat.mul_comm g d',Int.natCast_mul] at h
 have hg:(g:Int)≠0:=by omega
 have h2:(g:Int)*(sv s n'*q)=(g:Int)*(p*(d':Int)):=by
  calc (g:Int)*(sv s n'*q)=sv s n'*g*q:=by grind
   _=p*((d':Int)*g):=h
   _=(g:Int)*(p*(d':Int)):=by grind
 exact Int.eq_of_mul_eq_mul_left hg h2
theorem fneg_FQ{a:Tq}{p q:Int}(h:FQ a p q):FQ (fneg a) (-p) q:=by
 refine⟨h.1,h.2.1,?_⟩;show sv (!a.1 && decide (a.2.1≠0)) a.2.1*q=-p*(a.2.2:Int);rw[sv_sign _ _ _ id];have h3:=h.2.2
 have:sv (!a.1) a.2.1=- sv a.1 a.2.1:=by unfold sv;cases a.1<;>simp
 rw[this,Int.neg_mul,Int.neg_mul,h3]
theorem fmul_FQ{a b:Tq}{p q p' q':Int}(h:FQ a p q)(h':FQ b p' q'):FQ (fmul a b) (p*p') (q*q'):=by
 refine frac_FQ (Nat.mul_pos h.2.1 h'.2.1) (Int.mul_ne_zero h.1 h'.1) ?_
 have e:sv (a.1 != b.1) (a.2.1*b.2.1)=sv a.1 a.2.1*sv b.1 b.2.1:=by
  unfold sv;cases a.1<;>cases b.1<;>simp [Int.neg_mul,Int.mul_neg]
 rw[e,Int.natCast_mul];have h1:=h.2.2;have h2:=h'.2.2
 calc sv a.1 a.2.1*sv b.1 b.2.1*(q*q')=(sv a.1 a.2.1*q)*(sv b.1 b.2.1*q'):=by grind
  _=(p*(a.2.2:Int))*(p'*(b.2.2:Int)):=by rw[h1,h2]
  _=p*p'*((a.2.2:Int)*(b.2.2:Int)):=by grind
theorem fadd_FQ{a b:Tq}{p q p' q':Int}(h:FQ a p q)(h':FQ b p' q'):FQ (fadd a b) (p*q'+p'*q) (q*q'):=by
 have hd:=Nat.mul_pos h.2.1 h'.2.1;have hq:=Int.mul_ne_zero h.1 h'.1;have h1:=h.2.2;have h2:=h'.2.2
 have key:(sv a.1 a.2.1*(b.2.2:Int)+sv b.1 b.2.1*(a.2.2:Int))*(q*q')=(p*q'+p'*q)*((a.2.2*b.2.2:Nat):Int):=by
  rw[Int.natCast_mul]
  calc (sv a.1 a.2.1*(b.2.2:Int)+sv b.1 b.2.1*(a.2.2:Int))*(q*q')=(sv a.1 a.2.1*q)*(b.2.2:Int)*q'+(sv b.1 b.2.1*q')*(a.2.2:Int)*q:=by grind
   _=(p*(a.2.2:Int))*(b.2.2:Int)*q'+(p'*(b.2.2:Int))*(a.2.2:Int)*q:=by rw[h1,h2]
   _=(p*q'+p'*q)*((a.2.2:Int)*(b.2.2:Int)):=by grind
 have go:∀(s:Bool) (n:Nat),sv s n=sv a.1 a.2.1*(b.2.2:Int)+sv b.1 b.2.1*(a.2.2:Int)→FQ (frac s n (a.2.2*b.2.2)) (p*q'+p'*q) (q*q'):=fun s n e=>
  frac_FQ hd hq (by rw[e];exact key)
 unfold fadd
 split
 ·rename_i hs
  refine go _ _ ?_;rw[←hs];unfold sv
  cases a.1<;>simp [Int.neg_mul]<;>omega
 ·rename_i hs
  split
  ·rename_i hl
   refine go _ _ ?_;have e1:sv a.1 a.2.1*(b.2.2:Int)=sv a.1 (a.2.1*b.2.2):=(sv_mul _ _ _).symm;have e2:sv b.1 b.2.1*(a.2.2:Int)=sv b.1 (b.2.1*a.2.2):=(sv_mul _ _ _).symm;rw[e1,e2];generalize a.2.1*b.2.2=X at *;generalize b.2.1*a.2.2=Y at *;unfold sv
   cases ha:a.1<;>cases hb:b.1<;>simp [ha,hb] at hs ⊢<;>omega
  ·rename_i hl
   refine go _ _ ?_;have e1:sv a.1 a.2.1*(b.2.2:Int)=sv a.1 (a.2.1*b.2.2):=(sv_mul _ _ _).symm;have e2:sv b.1 b.2.1*(a.2.2:Int)=sv b.1 (b.2.1*a.2.2):=(sv_mul _ _ _).symm;rw[e1,e2];generalize a.2.1*b.2.2=X at *;generalize b.2.1*a.2.2=Y at *;unfold sv
   cases ha:a.1<;>cases hb:b.1<;>simp [ha,hb] at hs ⊢<;>omega
theorem IsQ.same{a b:Tq}{p q p' q':Int}(h:IsQ a p q)(h':IsQ b p' q')(e:p*q'=p'*q):SameQ a.1 a.2.1 a.2.2 b.1 b.2.1 b.2.2:=by
 have ha:=den1_pos a.2.2;have hb:=den1_pos b.2.2;have h1:=h.2;have h2:=h'.2
 have key:sv a.1 a.2.1*(den1 b.2.2:Int)=sv b.1 b.2.1*(den1 a.2.2:Int):=by
  have h3:(q*q')*(sv a.1 a.2.1*(den1 b.2.2:Int))=(q*q')*(sv b.1 b.2.1*(den1 a.2.2:Int)):=by
   calc (q*q')*(sv a.1 a.2.1*(den1 b.2.2:Int))=(sv a.1 a.2.1*q)*q'*(den1 b.2.2:Int):=by grind
    _=(p*(den1 a.2.2:Int))*q'*(den1 b.2.2:Int):=by rw[h1]
    _=(p*q')*(den1 a.2.2:Int)*(den1 b.2.2:Int):=by grind
    _=(p'*q)*(den1 a.2.2:Int)*(den1 b.2.2:Int):=by rw[e]
    _=(p'*(den1 b.2.2:Int))*q*(den1 a.2.2:Int):=by grind
    _=(sv b.1 b.2.1*q')*q*(den1 a.2.2:Int):=by rw[h2]
    _=(q*q')*(sv b.1 b.2.1*(den1 a.2.2:Int)):=by grind
  exact Int.eq_of_mul_eq_mul_left (Int.mul_ne_zero h.1 h'.1) h3
 rw[←sv_mul,←sv_mul] at key;unfold SameQ
 have z1:a.2.1*den1 b.2.2=0↔a.2.1=0:=by rw[Nat.mul_eq_zero];omega
 have z2:b.2.1*den1 a.2.2=0↔b.2.1=0:=by rw[Nat.mul_eq_zero];omega
 generalize a.2.1*den1 b.2.2=X at *;generalize b.2.1*den1 a.2.2=Y at *;unfold sv at key
 by_cases c1:a.2.1=0
 ·have x0:=z1.2 c1;subst x0
  have:Y=0:=by cases a.1<;>cases b.1<;>simp at key<;>omega
  exact .inl ⟨c1,z2.1 this⟩
 ·have x0:X≠0:=fun h=>c1 (z1.1 h)
  have y0:Y≠0:=by intro h;subst h;cases a.1<;>cases b.1<;>simp at key<;>omega
  refine .inr ⟨c1,fun h=>y0 (z2.2 h),?_⟩
  cases ha1:a.1<;>cases hb1:b.1<;>simp [ha1,hb1] at key ⊢<;>omega
def NRep (w:World) (v:Value) (a:Tq):Prop:=ARep w v a.1 a.2.1 a.2.2
theorem NRep.below{w w':World}{v:Value}{a:Tq}(h:NRep w v a)(hb:Bw w w'):NRep w' v a:=ARep.below h hb
def fr (a:Tq):Tq:=frac a.1 a.2.1 (den1 a.2.2)
def Few (a:Tq):Prop:=a.2.1 < W32 ^ 256∧a.2.2 < W32 ^ 256
theorem few_large{a:Tq}(h:large a.2.1 a.2.2=false):Few a:=by
 unfold large at h;rw[Bool.or_eq_false_iff] at h;have:=of_decide_eq_false h.1;exact⟨by omega,by omega⟩
theorem Few.four{n:Nat}(h:n < W32 ^ 256):n < B16 ^ 400000000:=lt_16_4 h (by omega)
theorem cmpI_scale{a b k:Int}(hk:0 < k):cmpI (k*a) (k*b)=cmpI a b:=by
 unfold cmpI
 rcases Int.lt_trichotomy a b with h | h | h
 ·rw[if_pos (Int.mul_lt_mul_of_pos_left h hk),if_pos h]
 ·subst h;simp
 ·have h2:=Int.mul_lt_mul_of_pos_left h hk;rw[if_neg (show ¬k*a < k*b by omega),if_pos h2,if_neg (show ¬a < b by omega),if_pos h]
theorem cmpI_swap(a b:Int):cmpI b a=- cmpI a b:=by unfold cmpI;repeat (first | split | rfl | omega)
theorem fcmp_Q{a b:Tq}{p q p' q':Int}(h:FQ a p q)(h':FQ b p' q')(hq:0 < q)(hq':0 < q'):fcmp a b=cmpI (p*q') (p'*q):=by
 unfold fcmp;have h1:=h.2.2;have h2:=h'.2.2;have hd:=h.2.1;have hd':=h'.2.1;rw[←cmpI_scale (Int.mul_pos hq hq'),←cmpI_scale (a:=p*q') (Int.mul_pos (show(0:Int) < a.2.2 by omega) (show(0:Int) < b.2.2 by omega))]
 have e1:q*q'*(sv a.1 a.2.1*(b.2.2:Int))=(a.2.2:Int)*(b.2.2:Int)*(p*q'):=by
  calc q*q'*(sv a.1 a.2.1*(b.2.2:Int))=(sv a.1 a.2.1*q)*q'*(b.2.2:Int):=by grind
   _=(p*(a.2.2:Int))*q'*(b.2.2:Int):=by rw[h1]
   _=(a.2.2:Int)*(b.2.2:Int)*(p*q'):=by grind
 have e2:q*q'*(sv b.1 b.2.1*(a.2.2:Int))=(a.2.2:Int)*(b.2.2:Int)*(p'*q):=by
  calc q*q'*(sv b.1 b.2.1*(a.2.2:Int))=(sv b.1 b.2.1*q')*q*(a.2.2:Int):=by grind
   _=(p'*(b.2.2:Int))*q*(a.2.2:Int):=by rw[h2]
   _=(a.2.2:Int)*(b.2.2:Int)*(p'*q):=by grind
 rw[e1,e2]
theorem Raw.alloc{w:World}{v:Value}{x:Nat}(h:Raw w v x)(o:Obj):Raw (w.alloc o) v x:=h.below ((Br _ _).alloc (Lr _) o)
set_option maxHeartbeats 4000000
set_option maxRecDepth 100000
theorem len_gt{B x k m:Nat}(hB:0 < B)(h:Len B x k):m < k↔B ^ m≤x:=by
 constructor
 ·intro hk;exact Nat.le_trans (Nat.pow_le_pow_right hB (show m≤k - 1 by omega)) (h.2 (by omega))
 ·intro hx
  rcases Nat.lt_or_ge m k with h1 | h1
  ·exact h1
  ·have:=Nat.lt_of_lt_of_le h.1 (Nat.pow_le_pow_right hB h1);omega
theorem len_two{x k m:Nat}(h:Len B16 x k):2*m < k↔W32 ^ m≤x:=by
 rw[pow_two_k];exact len_gt B16_pos h
theorem len_512{x k:Nat}(h:Len B16 x k):512 < k↔W32 ^ 256≤x:=by
 have h2:=len_two (m:=256) h
 rwa [show 2*256=512 from rfl] at h2
theorem len_128{x k:Nat}(h:Len B16 x k):128 < k↔W32 ^ 64≤x:=by
 have h2:=len_two (m:=64) h
 rwa [show 2*64=128 from rfl] at h2
theorem None_any(v:Value)(w:World)(h:FNorm w v (false,0,0)):
  Calls Tryz.prog 69 #[v] w fun e w'=>e=.returned (.bool true)∧Bw w w':=by
 obtain⟨vn,vd,rfl,⟨p1,k1,c1,rfl,_,hl1,_⟩,⟨p2,k2,c2,rfl,_,hl2,_⟩⟩:=h;obtain rfl:=(hl1.zero_iff W32_pos).1 rfl;obtain rfl:=(hl2.zero_iff W32_pos).1 rfl;clear hl1 hl2;go_enter Tryz.func69,Tryz.ntmps69;go_wp2_with fail
 go_ret
 exact⟨rfl,(Br _ _).alloc (Lr _) _⟩
theorem few_arep{a:Tq}(h:Few a):a.2.1 < W32 ^ 1000000000∧a.2.2 < W32 ^ 1000000000:=⟨lt_big h.1 (by omega),lt_big h.2 (by omega)⟩
theorem few_100{x:Nat}(h:x < W32 ^ 256):x < W32 ^ 100000000:=by
 generalize hb:100000000=b;exact Nat.lt_of_lt_of_le h (Nat.pow_le_pow_right W32_pos (by omega))
theorem make_bd{n d a:Nat}(hn:n < W32 ^ a)(hd:d < W32 ^ a)(ha:a≤400000000)(h0:0 < a):MakeOK n (den1 d):=by
 rw[pow_two_k] at hn hd
 have hd1:den1 d < B16 ^ (2*a):=by
  unfold den1
  split
  ·exact Nat.lt_of_lt_of_le (show 1 < B16 ^ 1 by decide) (Nat.pow_le_pow_right B16_pos (by omega))
  ·exact hd
 exact MakeOK.any hn hd1 (by omega)
theorem few_make{n d:Nat}(hn:n < W32 ^ 256)(hd:d < W32 ^ 256):MakeOK n (den1 d):=make_bd hn hd (by omega) (by omega)
/-! ### Over, Large -/
theorem Over_any(v:Value)(t:Tq)(w:World)(h:QNorm w v t):
  Calls Tryz.prog 58 #[v] w fun e w'=>e=.returned (.bool (big t.2.1 t.2.2))∧Bw w w':=by
 obtain⟨vn,vd,rfl,⟨p1,k1,c1,rfl,_,hl1,_⟩,⟨p2,k2,c2,rfl,_,hl2,_⟩⟩:=h;have h1:=len_128 hl1;have h2:=len_128 hl2
 have hbig:big t.2.1 t.2.2=(decide ((128:Int) < (k1:Int)) || decide ((128:Int) < (k2:Int))):=by
  unfold big;rw[←Bool.decide_or];exact decide_eq_decide.2 ⟨fun h=>h.elim (fun h=>.inl (by have:=h1.2 h;omega)) (fun h=>.inr (by have:=h2.2 h;omega)),fun h=>h.elim (fun h=>.inl (h1.1 (by omega))) (fun h=>.inr (h2.1 (by omega)))⟩
 rw[hbig];obtain⟨sg,hsg⟩:∃sg,sg=t.1:=⟨_,rfl⟩;rw[←hsg];clear hsg h1 h2 hl1 hl2 hbig;go_enter Tryz.func58,Tryz.ntmps58;go_wp2_with fail
 all_goals
  go_ret
  exact⟨rfl,(Br _ _).alloc (Lr _) _⟩
theorem mkq_frac{s:Bool}{n d:Nat}:mkq s n (den1 d)=(if n=0 then (false,0,1) else frac s n (den1 d)):=by
 have:=den1_pos d;unfold mkq
 by_cases h:n=0
 ·rw[if_pos (.inl h),if_pos h]
 ·rw[if_neg (by omega),if_neg h]
theorem mkq_fr{s:Bool}{n d:Nat}:mkq s n (den1 d)=frac s n (den1 d):=by
 rw[mkq_frac]
 split
 ·rename_i h
  subst h;unfold frac;rw[Nat.gcd_zero_left,Nat.div_self (den1_pos d),Nat.zero_div];simp
 ·rfl
theorem Large_any(v:Value)(a:Tq)(w:World)(h:NRep w v a):
  Calls Tryz.prog 93 #[v] w fun e w'=>e=.returned (.bool (large a.2.1 a.2.2))∧Bw w w':=by
 have HH:=hid h;obtain⟨vn,vd,rfl,⟨p1,k1,c1,rfl,hk1,hb1,hx1,hs1⟩,⟨p2,k2,c2,rfl,hk2,hb2,hx2,hs2⟩⟩:=h;have hW1:=hid (fun (W:World) (hW:Bw w W)=>words16_any p1 k1 c1 a.2.1 W hb1 hk1 hx1 (hs1.below hW));have hW2:=hid (fun (W:World) (hW:Bw w W)=>words16_any p2 k2 c2 a.2.2 W hb2 hk2 hx2 (hs2.below hW));have hOf:=hid (fun (h1:a.2.1 < W32 ^ 256) (h2:a.2.2 < W32 ^ 256) (W:World) (hW:Bw w W)=>qopen (t:=fr a) (by have h:=rOf_any _ _ _ _ W (HH.out.below hW) (few_make h1 h2);rw[mkq_fr] at h;exact h));have hOv:=hid (fun (W:World) (v':Value) (hq:QNorm W v' (fr a))=>Over_any v' _ W hq);obtain⟨sg,hsg⟩:∃sg,sg=a.1:=⟨_,rfl⟩;rw[←hsg] at hOf ⊢;clear hsg hs1 hs2 hx1 hx2;have HL:Hid (large a.2.1 a.2.2=(decide (W32 ^ 256≤a.2.1∨W32 ^ 256≤a.2.2) || big (fr a).2.1 (fr a).2.2)):=hid rfl;obtain⟨r,hr⟩:∃r,r=large a.2.1 a.2.2:=⟨_,rfl⟩;rw[←hr] at HL ⊢;clear hr;obtain⟨bg,hbg⟩:∃bg,bg=big (fr a).2.1 (fr a).2.2:=⟨_,rfl⟩;rw[←hbg] at HL hOv;clear hbg;go_enter Tryz.func93,Tryz.ntmps93;go_upto_region 1 with fail;have hVa:=Var3.alloc w (x:=.bool sg) (y:=.slice p1 k1 c1) (z:=.slice p2 k2 c2) 24 trivial trivial trivial;have hB0:=(Br w.heap.size w).alloc (Lr _) (.cells #[.bool sg,.slice p1 k1 c1,.slice p2 k2 c2] 24);generalize w.alloc (.cells #[.bool sg,.slice p1 k1 c1,.slice p2 k2 c2] 24)=W0 at *;obtain⟨a0,a1,a2,_⟩:=hVa.cells;have HV:=hid (And.intro hVa hB0);clear hVa hB0;go_wp2_with fail;refine(hW1.out _ HV.out.2).mono ?_;rintro e w1 ⟨v1,rfl,⟨p3,k3,c3,rfl,_,hl3,_⟩,hB1⟩;have h3:=len_512 hl3;clear a0 a1 a2 hW1 hl3;obtain⟨a0,a1,a2,_⟩:=(HV.out.1.below hB1).cells;have H1:=hid (And.intro (HV.out.1.below hB1) (HV.out.2.trans (hB1.mono HV.out.2.size)));clear hB1 HV
 by_cases hn:W32 ^ 256≤a.2.1
 ·have hk3:=h3.2 hn
  have hr:r=true:=by rw[HL.out,decide_eq_true (.inl hn)];rfl
  subst hr;clear HL h3 hn;have hd3:decide ((512:Int) < (k3:Int))=true:=decide_eq_true (by omega);go_wp2_with fail
  go_ret
  exact⟨rfl,H1.out.2⟩
 ·have hk3:¬512 < k3:=fun h=>hn (h3.1 h)
  have hd3:decide ((512:Int) < (k3:Int))=false:=decide_eq_false (by omega);clear h3 hk3;have HN:=hid hn;clear hn;go_wp2_with fail;refine(hW2.out _ H1.out.2).mono ?_;rintro e w2 ⟨v2,rfl,⟨p4,k4,c4,rfl,_,hl4,_⟩,hB2⟩;have h4:=len_512 hl4;clear a0 a1 a2 hW2 hl4;obtain⟨a0,a1,a2,_⟩:=(H1.out.1.below hB2).cells;have H2:=hid (H1.out.2.trans (hB2.mono H1.out.2.size));clear hB2 H1
  by_cases hn2:W32 ^ 256≤a.2.2
  ·have hk4:=h4.2 hn2
   have hr:r=true:=by rw[HL.out,decide_eq_true (.inr hn2)];rfl
   subst hr;clear HL h4 hn2;have hd4:decide ((512:Int) < (k4:Int))=true:=decide_eq_true (by omega);go_wp2_with fail
   go_ret
   exact⟨rfl,H2.out⟩
  ·have hk4:¬512 < k4:=fun h=>hn2 (h4.1 h)
   have hd4:decide ((512:Int) < (k4:Int))=false:=decide_eq_false (by omega)
   have hr:r=bg:=by rw[HL.out,decide_eq_false (fun h=>h.elim HN.out hn2)];rfl
   subst hr;have hO:=hid (hOf.out (by have:=HN.out;omega) (by omega) w2 H2.out);clear HL h4 hk4 hn2 HN hOf;go_wp2_with fail;refine hO.out.mono ?_;rintro e w3 ⟨s3,p5,k5,c5,p6,k6,c6,rfl,hQ,hB3⟩;have H3:=hid (H2.out.trans (hB3.mono H2.out.size));have hO3:=hid (hOv.out _ _ hQ.out);clear a0 a1 a2 hQ hB3 H2 hO hOv;go_wp2_with fail;refine hO3.out.mono ?_;rintro e w4 ⟨rfl,hB4⟩;have H4:=hid (H3.out.trans (hB4.mono H3.out.size));clear hB4 H3 hO3;go_wp2_with fail
   go_ret
   exact⟨rfl,H4.out⟩
theorem frac_pos{s:Bool}{n d:Nat}(hd:0 < d):0 < (frac s n d).2.2:=Nat.div_pos (Nat.le_of_dvd hd (Nat.gcd_dvd_right _ _)) (Nat.gcd_pos_of_pos_right _ hd)
theorem rat_out{t:Tq}(hd:0 < t.2.2)(hz:t.2.1=0→t.1=false):(t.1 && decide (t.2.1≠0),t.2.1,den0' t.2.2)=outF t:=by
 unfold outF den0 den0'
 have e1:(t.1 && decide (t.2.1≠0))=t.1:=by
  by_cases h:t.2.1=0
  ·rw[hz h];rfl
  ·simp [h]
 rw[e1]
 by_cases h:t.2.2=1
 ·rw[if_pos (by omega),if_pos h]
 ·rw[if_neg (by omega),if_neg h]
theorem frac_gcd{s:Bool}{n d:Nat}(hd:0 < d):Nat.gcd (frac s n d).2.1 (frac s n d).2.2=1:=by
 have hg0:0 < Nat.gcd n d:=Nat.gcd_pos_of_pos_right _ hd;show Nat.gcd (n / Nat.gcd n d) (d / Nat.gcd n d)=1;have h1:=Nat.mul_div_cancel' (Nat.gcd_dvd_left n d);have h2:=Nat.mul_div_cancel' (Nat.gcd_dvd_right n d)
 have h3:Nat.gcd n d*Nat.gcd (n / Nat.gcd n d) (d / Nat.gcd n d)=Nat.gcd n d*1:=by
  rw[←Nat.gcd_mul_left,h1,h2,Nat.mul_one]
 exact Nat.eq_of_mul_eq_mul_left hg0 h3
theorem canon_out{s:Bool}{n d:Nat}(hd:0 < d):Canon (outF (frac s n d)).1 (outF (frac s n d)).2.1 (outF (frac s n d)).2.2:=by
 have hp:=frac_pos (s:=s) (n:=n) hd;have hz:=frac_zero_sign (s:=s) (n:=n) hd
 have hd1:den1 (den0 (frac s n d).2.2)=(frac s n d).2.2:=by unfold den1 den0;by_cases h:(frac s n d).2.2=1<;>simp [h]<;>omega
 refine⟨?_,?_⟩
 ·show mkq (frac s n d).1 (frac s n d).2.1 (den1 (den0 (frac s n d).2.2))=(_,_,den1 (den0 (frac s n d).2.2));rw[hd1]
  by_cases h0:(frac s n d).2.1=0
  ·have hn:n=0:=by
    have h1:n / Nat.gcd n d=0:=h0;have:=Nat.div_mul_cancel (Nat.gcd_dvd_left n d);rw[h1,Nat.zero_mul] at this;exact this.symm
   have hs:=hz h0
   have h2:(frac s n d).2.2=1:=by
    show d / Nat.gcd n d=1;rw[hn,Nat.gcd_zero_left,Nat.div_self hd]
   show mkq (frac s n d).1 (frac s n d).2.1 (frac s n d).2.2=((frac s n d).1,(frac s n d).2.1,(frac s n d).2.2);rw[h0,hs,h2];rfl
  ·unfold mkq;rw[if_neg (by omega)];have hg:Nat.gcd (frac s n d).2.1 (frac s n d).2.2=1:=frac_gcd hd;show((frac s n d).1 && decide ((frac s n d).2.1≠0),(frac s n d).2.1 / Nat.gcd (frac s n d).2.1 (frac s n d).2.2,(frac s n d).2.2 / Nat.gcd (frac s n d).2.1 (frac s n d).2.2)=_;rw[hg,Nat.div_one,Nat.div_one,decide_eq_true h0,Bool.and_true];rfl
 ·show den0 _≠1;unfold den0
  split
  ·decide
  ·assumption
theorem fr_bd{a:Tq}(h:large a.2.1 a.2.2=false):(fr a).2.1 < W32 ^ 64∧(fr a).2.2 < W32 ^ 64:=large_bd h
theorem few_out{t:Tq}(h1:t.2.1 < W32 ^ 64)(h2:t.2.2 < W32 ^ 64):Few (outF t):=by
 have hw:W32 ^ 64≤W32 ^ 256:=Nat.pow_le_pow_right W32_pos (by omega)
 have hd:den0 t.2.2 < W32 ^ 64:=by unfold den0;split;exact Nat.lt_of_le_of_lt (Nat.zero_le _) h2;exact h2
 exact⟨Nat.lt_of_lt_of_le h1 hw,Nat.lt_of_lt_of_le hd hw⟩
theorem b16_64{x:Nat}(h:x < W32 ^ 64):x < B16 ^ 1000000000:=lt_W_B' h (by omega)
theorem rOfF_any(v:Value)(a:Tq)(w:World)(h:NRep w v a)(hL:large a.2.1 a.2.2=false):
  Calls Tryz.prog 94 #[v] w fun e w'=>∃sg pa ka ca pb kb cb,e=.returned (.agg #[.bool sg,.slice pa ka ca,.slice pb kb cb])∧Hid (QNorm w' (.agg #[.bool sg,.slice pa ka ca,.slice pb kb cb]) (fr a))∧Bw w w':=by
 refine qopen (t:=fr a) ?_;have hf:=few_large hL;have h:=rOf_any v _ _ _ w h (few_make hf.1 hf.2);rw[mkq_fr] at h;exact h
theorem QNorm.alloc{w:World}{v:Value}{t:Tq}(h:QNorm w v t)(o:Obj):QNorm (w.alloc o) v t:=h.below ((Br _ _).alloc (Lr _) o)
theorem Opp_ret{W:World}{B:Nat}{x y z:Value}{tm:Array Value}{R:Ending→World→Prop}(h2:tm[2]?.getD undef=.pointer (some ⟨B,0,none⟩))(hV:Var3 W B x y z)(hR:R (.returned (.agg #[x,y,z])) W):
  bodyPost Tryz.prog Tryz.f103 R .ret {tmps:=tm,defers:=[]} W:=by
 obtain⟨c0,c1,c2,_,_,_⟩:=hV.cells;exact bodyPost_ret (v:=.agg #[x,y,z]) (by simp [results,Tryz.results103,go_sem,h2,c0,c1,c2]) rfl hR
theorem Sgn_any(v:Value)(t:Tq)(w:World)(h:QNorm w v t)(hz:t.2.1=0→t.1=false):
  Calls Tryz.prog 66 #[v] w fun e w'=>e=.returned (.int .i64 (sgn t.1 t.2.1))∧Bw w w':=by
 obtain⟨vn,vd,rfl,⟨p1,k1,c1,rfl,_,hl1,_⟩,⟨p2,k2,c2,rfl,_⟩⟩:=h;have hk:=hl1.zero_iff B16_pos;obtain⟨sg,hsg⟩:∃s,s=t.1:=⟨_,rfl⟩;rw[←hsg] at hz ⊢
 by_cases h0:t.2.1=0
 ·obtain rfl:=hk.1 h0;have hs:=hz h0;rw[h0,hs,show sgn false 0=0 from rfl];clear hsg hz hk h0 hs hl1;go_enter Tryz.func66,Tryz.ntmps66;go_wp2_with fail
  go_ret
  exact⟨rfl,(Br _ _).alloc (Lr _) _⟩
 ·have hk1:((k1:Int) == 0)=false:=by simp;exact fun h=>h0 (hk.2 h)
  have hg:sgn sg t.2.1=if sg then -1 else 1:=by unfold sgn;simp [h0]
  rw[hg];clear hsg hz hk h0 hl1 hg;cases sg
  all_goals
   go_enter Tryz.func66,Tryz.ntmps66
   go_wp2_with fail
   go_ret
   exact⟨rfl,(Br _ _).alloc (Lr _) _⟩
theorem Opp_at(sg p1 k1 c1 p2 k2 c2)(w:World):
  Calls Tryz.prog 103 #[.agg #[.bool sg,.slice p1 k1 c1,.slice p2 k2 c2]] w fun e w'=>e=.returned (.agg #[.bool (!sg && decide (0 < k1)),.slice p1 k1 c1,.slice p2 k2 c2])∧Bw w w':=by
 by_cases h0:0 < k1
 ·rw[decide_eq_true h0];cases sg
  all_goals
   go_enter Tryz.func103,Tryz.ntmps103
   go_wp2_with fail
   exact Opp_ret rfl (Var3.alloc2 w _ 40 trivial trivial trivial) ⟨rfl,below_alloc2 w _ _⟩
 ·obtain rfl:k1=0:=by omega
  rw[decide_eq_false h0];cases sg
  all_goals
   go_enter Tryz.func103,Tryz.ntmps103
   go_wp2_with fail
   exact Opp_ret rfl (Var3.alloc2 w _ 40 trivial trivial trivial) ⟨rfl,below_alloc2 w _ _⟩
theorem Opp_any(v:Value)(t:Tq)(w:World)(h:QNorm w v t):
  Calls Tryz.prog 103 #[v] w fun e w'=>∃v',e=.returned v'∧QNorm w' v' (fneg t)∧Bw w w':=by
 obtain⟨vn,vd,rfl,⟨p1,k1,c1,rfl,hx1,hl1,hy1⟩,⟨p2,k2,c2,rfl,hx2⟩⟩:=h;have hk:=hl1.zero_iff B16_pos;refine(Opp_at t.1 p1 k1 c1 p2 k2 c2 w).mono ?_;rintro e w' ⟨rfl,hB⟩;refine⟨_,rfl,⟨_,_,?_,(show Rep B16 w _ t.2.1 from⟨_,_,_,rfl,hx1,hl1,hy1⟩).below hB,(show Rep B16 w _ t.2.2 from⟨_,_,_,rfl,hx2⟩).below hB⟩,hB⟩
 have hg:(fneg t).1=(!t.1 && decide (0 < k1)):=by
  show(!t.1 && decide (t.2.1≠0))=_
  congr 1
  exact decide_eq_decide.2 ⟨fun h=>by have:k1≠0:=fun h2=>h (hk.2 h2);omega,fun h h2=>by have:=hk.1 h2;omega⟩
 rw[hg]
theorem fneg_frac{s:Bool}{n d:Nat}(hd:0 < d):fneg (frac s n d)=frac (!s) n d:=by
 have hz:n / Nat.gcd n d=0↔n=0:=by
  constructor
  ·intro h;have:=Nat.div_mul_cancel (Nat.gcd_dvd_left n d);rw[h,Nat.zero_mul] at this;exact this.symm
  ·intro h;rw[h,Nat.zero_div]
 have _:=hd;unfold fneg frac
 by_cases h:n=0
 ·have h2:=hz.2 h;simp [h]
 ·have h2:¬n / Nat.gcd n d=0:=fun h3=>h (hz.1 h3)
  simp [h,h2]
end Go.Proofs.YteblinkehldghaaGreatDoor
