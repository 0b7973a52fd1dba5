/- Fractions of the program: the sum, with the common divisor of the denominators taken out; FromInt, Rat. -/
import Derived.Test.YteblinkehldghaaGreatDoorFracA
set_option maxHeartbeats 8000000
set_option maxRecDepth 100000
namespace Go.Proofs.YteblinkehldghaaGreatDoor
open Go.RowKit Dg
open And renaming intro→Ai
open Nat renaming le_refl→Lr
open Below renaming refl→Br
def ssum (s:Bool) (a:Nat) (t:Bool) (b:Nat):Bool×Nat:=if s=t then (s,a+b) else if a < b then (t,b - a) else (s,a - b)
def fadd1 (a b:Tq):Tq:=
 let C:=Nat.gcd a.2.2 b.2.2
 let x:=a.2.2 / C
 let y:=b.2.2 / C
 let r:=ssum a.1 (a.2.1*y) b.1 (b.2.1*x)
 let f:=frac r.1 r.2 C
 (f.1,f.2.1,f.2.2*x*y)
theorem frac_common(s:Bool){N C x y:Nat}(hC:0 < C)(hx:Nat.gcd N x=1)(hy:Nat.gcd N y=1):
  frac s (C*N) ((C*x)*(C*y))=((frac s N C).1,(frac s N C).2.1,(frac s N C).2.2*x*y):=by
 have hg:Nat.gcd N (C*(x*y))=Nat.gcd N C:=by
  have h:Nat.Coprime N (x*y):=Nat.Coprime.mul_right hx hy;exact Nat.Coprime.gcd_mul_right_cancel_right C (Nat.Coprime.symm h)
 have e:(C*x)*(C*y)=C*(C*(x*y)):=by rw[Nat.mul_mul_mul_comm,Nat.mul_assoc]
 unfold frac;rw[e,Nat.gcd_mul_left,hg,Nat.mul_div_mul_left _ _ hC,Nat.mul_div_mul_left _ _ hC];refine Prod.ext ?_ (Prod.ext rfl ?_)
 ·show(s && decide (C*N≠0))=(s && decide (N≠0))
  congr 1
  rw[decide_eq_decide];constructor
  ·intro h h0;subst h0;exact h (Nat.mul_zero _)
  ·intro h;exact Nat.mul_ne_zero (by omega) h
 ·show C*(x*y) / Nat.gcd N C=C / Nat.gcd N C*x*y;obtain⟨k,hk⟩:=Nat.gcd_dvd_right N C;have h0:0 < Nat.gcd N C:=Nat.gcd_pos_of_pos_right _ hC;rw[Nat.mul_assoc];generalize Nat.gcd N C=g at *;subst hk;rw[Nat.mul_div_cancel_left _ h0,Nat.mul_assoc,Nat.mul_div_cancel_left _ h0]
theorem cop_of{N x a:Nat}(h:∀d,d ∣ N→d ∣ x→d ∣ a)(ha:Nat.gcd a x=1):Nat.gcd N x=1:=by
 have h1:=Nat.gcd_dvd_left N x;have h2:=Nat.gcd_dvd_right N x;have:=Nat.dvd_gcd (h _ h1 h2) h2;rw[ha] at this;exact Nat.dvd_one.1 this
theorem ssum_dvd_left{s t:Bool}{a b d:Nat}(h:d ∣ (ssum s a t b).2)(hb:d ∣ b):d ∣ a:=by
 unfold ssum at h
 split at h
 ·exact(Nat.dvd_add_left hb).1 h
 ·split at h
  ·rename_i hl
   have e:a=b - (b - a):=by omega
   rw[e];exact Nat.dvd_sub hb h
  ·rename_i hl
   have e:a=(a - b)+b:=by omega
   rw[e];exact Nat.dvd_add h hb
theorem ssum_dvd_right{s t:Bool}{a b d:Nat}(h:d ∣ (ssum s a t b).2)(ha:d ∣ a):d ∣ b:=by
 unfold ssum at h
 split at h
 ·exact(Nat.dvd_add_right ha).1 h
 ·split at h
  ·rename_i hl
   have e:b=(b - a)+a:=by omega
   rw[e];exact Nat.dvd_add h ha
  ·rename_i hl
   have e:b=a - (a - b):=by omega
   rw[e];exact Nat.dvd_sub ha h
theorem ssum_scale(s:Bool)(a:Nat)(t:Bool)(b C:Nat)(hC:0 < C):(ssum s (C*a) t (C*b))=((ssum s a t b).1,C*(ssum s a t b).2):=by
 unfold ssum
 split
 ·simp [Nat.mul_add]
 ·by_cases h:a < b
  ·rw[if_pos ((Nat.mul_lt_mul_left hC).2 h),if_pos h,Nat.mul_sub]
  ·rw[if_neg (fun h'=>h ((Nat.mul_lt_mul_left hC).1 h')),if_neg h,Nat.mul_sub]
theorem fadd_ssum(a b:Tq):fadd a b=frac (ssum a.1 (a.2.1*b.2.2) b.1 (b.2.1*a.2.2)).1 (ssum a.1 (a.2.1*b.2.2) b.1 (b.2.1*a.2.2)).2 (a.2.2*b.2.2):=by
 unfold fadd ssum
 split
 ·rfl
 ·split<;>rfl
theorem fadd_common(a b:Tq)(h1:0 < a.2.2)(c1:Nat.gcd a.2.1 a.2.2=1)(c2:Nat.gcd b.2.1 b.2.2=1):fadd a b=fadd1 a b:=by
 obtain⟨s1,n1,d1⟩:=a;obtain⟨s2,n2,d2⟩:=b;rw[fadd_ssum];simp only[fadd1] at *;have hC:0 < Nat.gcd d1 d2:=Nat.gcd_pos_of_pos_left _ h1;have hxy:Nat.gcd (d1 / Nat.gcd d1 d2) (d2 / Nat.gcd d1 d2)=1:=Nat.coprime_div_gcd_div_gcd hC;have ex:=Nat.mul_div_cancel' (Nat.gcd_dvd_left d1 d2);have ey:=Nat.mul_div_cancel' (Nat.gcd_dvd_right d1 d2);generalize Nat.gcd d1 d2=C at *;generalize d1 / C=x at *;generalize d2 / C=y at *;subst ex ey
 have e1:n1*(C*y)=C*(n1*y):=by rw[Nat.mul_left_comm]
 have e2:n2*(C*x)=C*(n2*x):=by rw[Nat.mul_left_comm]
 rw[e1,e2,ssum_scale _ _ _ _ _ hC];have n1x:Nat.Coprime n1 x:=Nat.Coprime.coprime_mul_left_right c1;have n2y:Nat.Coprime n2 y:=Nat.Coprime.coprime_mul_left_right c2;refine frac_common _ hC ?_ ?_
 ·exact cop_of (a:=n1*y) (fun d hd hx=>ssum_dvd_left hd (Nat.dvd_trans hx (Nat.dvd_mul_left _ _))) (Nat.Coprime.mul_left n1x (Nat.Coprime.symm hxy))
 ·exact cop_of (a:=n2*x) (fun d hd hx=>ssum_dvd_right hd (Nat.dvd_trans hx (Nat.dvd_mul_left _ _))) (Nat.Coprime.mul_left n2y hxy)
theorem ssum_lt{s t:Bool}{a b A:Nat}(ha:a < W32 ^ A)(hb:b < W32 ^ A){c:Nat}(hc:A+1≤c):(ssum s a t b).2 < W32 ^ c:=by
 unfold ssum
 split
 ·exact lt_add ha hb hc
 ·split
  ·exact lt_pow (Nat.lt_of_le_of_lt (Nat.sub_le _ _) hb) (by omega)
  ·exact lt_pow (Nat.lt_of_le_of_lt (Nat.sub_le _ _) ha) (by omega)
theorem ssum_mul_lt{s t:Bool}{a b x y A c:Nat}(ha:a < W32 ^ A)(hy:y < W32 ^ A)(hb:b < W32 ^ A)(hx:x < W32 ^ A)(hc:A+A+1≤c):(ssum s (a*y) t (b*x)).2 < W32 ^ c:=
 ssum_lt (lt_mul ha hy (Lr _)) (lt_mul hb hx (Lr _)) hc
theorem ssum_9m{s t:Bool}{a b x y:Nat}(ha:a < W32 ^ 4000000)(hy:y < W32 ^ 4000000)(hb:b < W32 ^ 4000000)(hx:x < W32 ^ 4000000):(ssum s (a*y) t (b*x)).2 < W32 ^ 9000000:=by
 generalize hA:4000000=A at *;generalize hc:9000000=c at *;exact ssum_mul_lt ha hy hb hx (by omega)
theorem SSum_any(va vb:Value)(s t)(a b:Nat)(w:World)(ha:Rep W32 w va a)(hb:Rep W32 w vb b)(hA:a < W32 ^ 1000000000)(hB:b < W32 ^ 1000000000):
  Calls Tryz.prog 147 #[.bool s,va,.bool t,vb] w fun e w'=>∃v,e=.returned (.tuple #[.bool (ssum s a t b).1,v])∧Rep W32 w' v (ssum s a t b).2∧Bw w w':=by
 have HA:=hid (Add_any va vb a b w ha hb hA hB);have HC:=hid (Compare_any va vb a b w ha hb hA hB);have HS1:=hid (fun (h:b≤a) (q:Nat)=>Sub_any va vb a b (w.drewN q) (ha.drewN q) (hb.drewN q) hA h);have HS2:=hid (fun (h:a≤b) (q:Nat)=>Sub_any vb va b a (w.drewN q) (hb.drewN q) (ha.drewN q) hB h);clear ha hb hA hB
 by_cases hst:s=t
 ·subst hst
  have e1:ssum s a s b=(s,a+b):=by unfold ssum;rw[if_pos rfl]
  rw[e1];clear e1;go_enter Tryz.func147,Tryz.ntmps147;go_wp2_with fail;refine HA.out.mono ?_;rintro e w1 ⟨v,rfl,hR,hB⟩;go_wp2_with fail
  go_ret2
  exact⟨v,rfl,hR,hB⟩
 ·have hne:(s == t)=false:=by cases s<;>cases t<;>first | rfl | exact absurd rfl hst
  by_cases hl:a < b
  ·have e1:ssum s a t b=(t,b - a):=by unfold ssum;rw[if_neg hst,if_pos hl]
   rw[e1];clear e1 hst;go_enter Tryz.func147,Tryz.ntmps147;go_wp2_with fail;refine HC.out.mono ?_;rintro e w1 ⟨rfl,q,rfl⟩;rw[show cmp3 a b=-1 from if_pos hl];go_wp2_with fail;refine(HS2.out (Nat.le_of_lt hl) q).mono ?_;rintro e w1 ⟨v,rfl,hR,hB⟩;go_wp2_with fail
   go_ret2
   exact⟨v,rfl,hR,held_any (below_drewN (Br _ _) q) hB⟩
  ·have e1:ssum s a t b=(s,a - b):=by unfold ssum;rw[if_neg hst,if_neg hl]
   rw[e1];clear e1 hst;go_enter Tryz.func147,Tryz.ntmps147;go_wp2_with fail;refine HC.out.mono ?_;rintro e w1 ⟨rfl,q,rfl⟩;have hcm:=cmp3_ge0 hl;obtain⟨cm,hcm'⟩:∃cm,cm=cmp3 a b:=⟨_,rfl⟩;rw[←hcm'] at hcm;rw[←hcm'];clear hcm';go_wp2_with fail;refine(HS1.out (Nat.le_of_not_lt hl) q).mono ?_;rintro e w1 ⟨v,rfl,hR,hB⟩;go_wp2_with fail
   go_ret2
   exact⟨v,rfl,hR,held_any (below_drewN (Br _ _) q) hB⟩
theorem open_frac{w:World}{sg}{vn vd:Value}{t:Tq}(h:FNorm w (.agg #[.bool sg,vn,vd]) t):∃s,s=t.1∧(sg=t.1∧Rep W32 w vn t.2.1)∧Rep W32 w vd t.2.2:=by
 obtain⟨vn',vd',hv,h1,h2⟩:=h;have e:=Value.agg.inj hv;simp at e;obtain⟨rfl,rfl,rfl⟩:=e;exact⟨_,rfl,⟨rfl,h1⟩,h2⟩
theorem ropen{D:Nat}{f:FuncId}{args:Array Value}{w:World}{n:Nat}(h:Calls Tryz.prog f args w fun e w'=>∃v,e=.returned v∧Rep D w' v n∧Bw w w'):
  Calls Tryz.prog f args w fun e w'=>∃p k c,e=.returned (.slice p k c)∧Hid (Rep D w' (.slice p k c) n)∧Bw w w':=by
 refine h.mono ?_;rintro e w' ⟨v,he,hR,hB⟩;have h2:=hR;obtain⟨p,k,c,rfl,_⟩:=h2;exact⟨p,k,c,he,hid hR,hB⟩
def Keep (N B:Nat) (V:World) (x y z:Value) (w:World):Prop:=Var3 w B x y z∧Below N V w
theorem Keep.drew{N B:Nat}{V w:World}{x y z:Value}(h:Keep N B V x y z w):Keep N B V x y z w.drew:=⟨h.1,h.2.trans (Br _ _).drew⟩
theorem Keep.store{N B C:Nat}{V w:World}{x y z:Value}(h:Keep N B V x y z w)(hne:B≠C)(hN:N≤C)(a b c:Value):Keep N B V x y z (((w.setCell ⟨C,0,none⟩ a).setCell ⟨C,1,none⟩ b).setCell ⟨C,2,none⟩ c):=
 ⟨h.1.other hne a b c,below_set3 h.2 hN⟩
theorem FracAdd_ret{W:World}{B:Nat}{x y z:Value}{tm:Array Value}{R:Ending→World→Prop}(h2:tm[4]?.getD undef=.pointer (some ⟨B,0,none⟩))(hV:Var3 W B x y z)(hR:R (.returned (.agg #[x,y,z])) W):
  bodyPost Tryz.prog Tryz.f112 R .ret {tmps:=tm,defers:=[]} W:=by
 obtain⟨c0,c1,c2,_,_,_⟩:=hV.cells;exact bodyPost_ret (v:=.agg #[x,y,z]) (by simp [results,Tryz.results112,go_sem,h2,c0,c1,c2]) rfl hR
theorem FracAdd_any(va vb:Value)(s1:Bool)(n1 d1:Nat)(s2:Bool)(n2 d2:Nat)(w:World)(ha:FRep w va s1 n1 d1)(hb:FRep w vb s2 n2 d2)
  (hn1:n1 < W32 ^ 4000000)(hd1:d1 < W32 ^ 4000000)(hn2:n2 < W32 ^ 4000000)(hd2:d2 < W32 ^ 4000000)(h1:0 < d1)(_h2:0 < d2)(ht:TabOk w)
  (hc1:Nat.gcd n1 d1=1)(hc2:Nat.gcd n2 d2=1):
  Calls Tryz.prog 112 #[va,vb] w fun e w'=>∃v',e=.returned v'∧FNorm w' v' (fadd (s1,n1,d1) (s2,n2,d2))∧Bw w w':=by
 obtain⟨vn1,vd1,rfl,hrn1,hrd1⟩:=ha;obtain⟨vn2,vd2,rfl,hrn2,hrd2⟩:=hb;have HR:=hid (Ai (Ai hrn1 hrd1) (Ai hrn2 hrd2));obtain⟨p1,k1,c1,rfl,_,_,_⟩:=hrn1;obtain⟨p2,k2,c2,rfl,_,_,_⟩:=hrd1;obtain⟨p3,k3,c3,rfl,_,_,_⟩:=hrn2;obtain⟨p4,k4,c4,rfl,_,_,_⟩:=hrd2;have hC0:0 < Nat.gcd d1 d2:=Nat.gcd_pos_of_pos_left _ h1;have HCl:=hid (Ai (Nat.lt_of_le_of_lt (Nat.le_of_dvd h1 (Nat.gcd_dvd_left d1 d2)) hd1) hC0);have htt:fadd (s1,n1,d1) (s2,n2,d2)=fadd1 (s1,n1,d1) (s2,n2,d2):=fadd_common (s1,n1,d1) (s2,n2,d2) h1 hc1 hc2;rw[htt];have HB:=hid (Ai (Ai hn1 hd1) (Ai hn2 hd2));have HT:=hid ht;obtain⟨C,hC⟩:∃C,C=Nat.gcd d1 d2:=⟨_,rfl⟩;obtain⟨x,hx⟩:∃x,x=d1 / C:=⟨_,rfl⟩;obtain⟨y,hy⟩:∃y,y=d2 / C:=⟨_,rfl⟩;obtain⟨rs,hrs⟩:∃r,r=(ssum s1 (n1*y) s2 (n2*x)).1:=⟨_,rfl⟩;obtain⟨rn,hrn⟩:∃r,r=(ssum s1 (n1*y) s2 (n2*x)).2:=⟨_,rfl⟩;obtain⟨t,htv⟩:∃t,t=frac rs rn C:=⟨_,rfl⟩
 have hxl:x < W32 ^ 4000000:=by rw[hx];exact Nat.lt_of_le_of_lt (Nat.div_le_self _ _) hd1
 have hyl:y < W32 ^ 4000000:=by rw[hy];exact Nat.lt_of_le_of_lt (Nat.div_le_self _ _) hd2
 have hrl:rn < W32 ^ 9000000:=by
  rw[hrn];exact ssum_9m hn1 hyl hn2 hxl
 have hres:fadd1 (s1,n1,d1) (s2,n2,d2)=(t.1,t.2.1,t.2.2*x*y):=by
  unfold fadd1;simp only;rw[←hC,←hx,←hy,←hrs,←hrn,←htv]
 rw[hres]
 have htl:t.2.2 < W32 ^ 4000000:=by
  rw[htv];show C / _ < _;rw[hC];exact Nat.lt_of_le_of_lt (Nat.div_le_self _ _) HCl.out.1
 rw[←hC] at HCl;have HX:=hid (Ai hxl (Ai hyl (Ai hrl htl)));have HE:=hid (Ai hC (Ai hx (Ai hy (Ai hrs (Ai hrn htv)))));clear hn1 hd1 hn2 hd2 h1 ht hc1 hc2 hC0 htt hC hx hy hrs hrn htv hxl hyl hrl hres htl;go_enter Tryz.func112,Tryz.ntmps112;go_wp2_with fail;have hVa:Var3 (w.alloc (.cells #[.bool s1,.slice p1 k1 c1,.slice p2 k2 c2] 48)) w.heap.size (.bool s1) (.slice p1 k1 c1) (.slice p2 k2 c2):=Var3.alloc w 48 trivial trivial trivial;have hVb:=Var3.alloc2 w (.cells #[.bool s1,.slice p1 k1 c1,.slice p2 k2 c2] 48) (x:=.bool s2) (y:=.slice p3 k3 c3) (z:=.slice p4 k4 c4) 48 trivial trivial trivial;have hVr:=Var3.alloc3 w (.cells #[.bool s1,.slice p1 k1 c1,.slice p2 k2 c2] 48) (.cells #[.bool s2,.slice p3 k3 c3,.slice p4 k4 c4] 48) (x:=.bool false) (y:=.slice none 0 0) (z:=.slice none 0 0) 48 trivial trivial trivial;have hB0:=below_alloc3 w (.cells #[.bool s1,.slice p1 k1 c1,.slice p2 k2 c2] 48) (.cells #[.bool s2,.slice p3 k3 c3,.slice p4 k4 c4] 48) (.cells #[.bool false,.slice none 0 0,.slice none 0 0] 48);have hVa':=(hVa.below ((Br _ _).alloc (Lr _) (.cells #[.bool s2,.slice p3 k3 c3,.slice p4 k4 c4] 48))).below ((Br _ _).alloc (Lr _) (.cells #[.bool false,.slice none 0 0,.slice none 0 0] 48));have hVb':=hVb.below ((Br _ _).alloc (Lr _) (.cells #[.bool false,.slice none 0 0,.slice none 0 0] 48));clear hVa hVb;generalize hW0:((w.alloc (.cells #[.bool s1,.slice p1 k1 c1,.slice p2 k2 c2] 48)).alloc (.cells #[.bool s2,.slice p3 k3 c3,.slice p4 k4 c4] 48)).alloc (.cells #[.bool false,.slice none 0 0,.slice none 0 0] 48)=W0 at *;clear hW0;have HV:=hid (Ai hVa' (Ai hVb' (Ai hVr hB0)));clear hVa' hVb' hVr hB0;refine(Gcd_any _ _ d1 d2 W0 (HR.out.1.2.below HV.out.2.2.2) (HR.out.2.2.below HV.out.2.2.2) (lt_20 HB.out.1.2 (by omega)) (lt_20 HB.out.2.2 (by omega)) (HT.out.below HV.out.2.2.2)).mono ?_;rintro e w1 ⟨vg,rfl,hRg,hBg⟩;rw[←HE.out.1] at hRg;have HG:=hid hRg;obtain⟨pg,kg,cg,rfl,_,_,_⟩:=hRg;have HK1:=hid hBg;obtain⟨a0,a1,a2,_⟩:=(HV.out.1.below hBg).cells;clear hBg;go_wp2_with fail;refine(Div_any _ _ d1 C w1 ((HR.out.1.2.below HV.out.2.2.2).below HK1.out) HG.out (lt_9 (lt_20 HB.out.1.2 (by omega)) (by omega)) (lt_9 (lt_20 HCl.out.1 (by omega)) (by omega)) HCl.out.2 ((HT.out.below HV.out.2.2.2).below HK1.out)).mono ?_;rintro e w2 ⟨vx,rx,rfl,hRx,_,hBx⟩;rw[←HE.out.2.1] at hRx;have HQx:=hid hRx;obtain⟨px,kx,cx,rfl,_,_,_⟩:=hRx;have HK2:=hid (held_any HK1.out hBx);have HG2:=hid (HG.out.below hBx);clear HG HK1 hBx a0 a1 a2;obtain⟨b0,b1,b2,_⟩:=(HV.out.2.1.below HK2.out).cells;go_wp2_with fail;refine(Div_any _ _ d2 C w2 ((HR.out.2.2.below HV.out.2.2.2).below HK2.out) HG2.out (lt_9 (lt_20 HB.out.2.2 (by omega)) (by omega)) (lt_9 (lt_20 HCl.out.1 (by omega)) (by omega)) HCl.out.2 ((HT.out.below HV.out.2.2.2).below HK2.out)).mono ?_;rintro e w3 ⟨vy,ry,rfl,hRy,_,hBy⟩;rw[←HE.out.2.2.1] at hRy;have HQy:=hid hRy;obtain⟨py,ky,cy,rfl,_,_,_⟩:=hRy;have HK3:=hid (held_any HK2.out hBy);have HG3:=hid (HG2.out.below hBy);have HQx3:=hid (HQx.out.below hBy);clear HG2 HK2 HQx hBy b0 b1 b2
 have HS:Hid (∀w',Bw w3 w'→(w'.cell? ⟨w.heap.size,0,none⟩=some (.bool s1)∧w'.cell? ⟨w.heap.size,1,none⟩=some (.slice p1 k1 c1)∧w'.cell? ⟨w.heap.size+1,0,none⟩=some (.bool s2)∧w'.cell? ⟨w.heap.size+1,1,none⟩=some (.slice p3 k3 c3)∧Hid (Bw w3 w'))):=
  hid fun w' hb=>⟨((HV.out.1.below HK3.out).below hb).cells.1,((HV.out.1.below HK3.out).below hb).cells.2.1,((HV.out.2.1.below HK3.out).below hb).cells.1,((HV.out.2.1.below HK3.out).below hb).cells.2.1,hid hb⟩
 have hMx:=hid (fun (W:World) (hW:Bw w3 W)=>Mul_any _ _ n1 y W (((HR.out.1.1.below HV.out.2.2.2).below HK3.out).below hW) (HQy.out.below hW) (lt_big HB.out.1.1 (by omega)) (lt_big HX.out.2.1 (by omega)));have hMy:=hid (fun (W:World) (hW:Bw w3 W)=>Mul_any _ _ n2 x W (((HR.out.2.1.below HV.out.2.2.2).below HK3.out).below hW) (HQx3.out.below hW) (lt_big HB.out.2.1 (by omega)) (lt_big HX.out.1 (by omega)));have hSum:=hid (fun (W:World) (u v:Value) (hu:Rep W32 W u (n1*y)) (hv:Rep W32 W v (n2*x))=>SSum_any u v s1 s2 (n1*y) (n2*x) W hu hv (lt_big (lt_mul (c:=8000000) HB.out.1.1 HX.out.2.1 (by omega)) (by omega)) (lt_big (lt_mul (c:=8000000) HB.out.2.1 HX.out.1 (by omega)) (by omega)));rw[←HE.out.2.2.2.1,←HE.out.2.2.2.2.1] at hSum;go_wp2_with fail
 go_region_held3 (fun w'=>w'.cell? ⟨w.heap.size,0,none⟩=some (.bool s1)∧w'.cell? ⟨w.heap.size,1,none⟩=some (.slice p1 k1 c1)∧w'.cell? ⟨w.heap.size+1,0,none⟩=some (.bool s2)∧w'.cell? ⟨w.heap.size+1,1,none⟩=some (.slice p3 k3 c3)∧Hid (Bw w3 w'))
  (first | exact HS.out _ (Br _ _).drew | (exact HS.out _ (by assumption)))
  (first
   | (go_at_call_of 133 k1;refine(hMx.out _ (held4 (by assumption))).mono ?_;rintro e wa ⟨va,rfl,hRa,hBa⟩;have hKa:=held_any (held4 (N:=w3.heap.size) (W0:=w3) (by assumption)) hBa)
   | (go_at_call_of 133 k3;refine(hMy.out _ (held4 (by assumption))).mono ?_;rintro e wb ⟨vb,rfl,hRb,hBb⟩;have hKb:=held_any (held4 (N:=w3.heap.size) (W0:=w3) (by assumption)) hBb)
   | (go_at_call 147;refine(hSum.out _ _ _ (hRa.below hBb) hRb).mono ?_;rintro e wd ⟨vd,rfl,hRd,hBd⟩;have hKd:=held_any (held4 (N:=w3.heap.size) (W0:=w3) (by assumption)) hBd))
 rename_i hHeld
 clear hHeld;have HD:=hid hRd;have HKd:=hid hKd;obtain⟨pd,kd,cd,rfl,_,_,_⟩:=hRd;clear hRa hBa hKa hRb hBb hKb hBd hKd HS hMx hMy hSum;have hW3:=hid (HV.out.2.2.2.trans ((HK3.out.trans (HKd.out.mono HK3.out.size)).mono HV.out.2.2.2.size));have hNew:=hid (fopen (t:=frac rs rn C) (New_any rs _ _ rn C wd HD.out (HG3.out.below HKd.out) (lt_20 HX.out.2.2.1 (by omega)) (lt_20 HCl.out.1 (by omega)) HCl.out.2 (HT.out.below hW3.out)));rw[←HE.out.2.2.2.2.2] at hNew;go_wp2_with fail;refine hNew.out.mono ?_;rintro e w6 ⟨sg,pa,ka,ca,pb,kb,cb,rfl,HF,hB6⟩;clear hNew;have HB6:=hid hB6;clear hB6;go_wp2_with fail;have hVs:=Var3.alloc w6 (x:=.bool sg) (y:=.slice pa ka ca) (z:=.slice pb kb cb) 48 trivial trivial trivial;have hB7:Bw w6 (w6.alloc (.cells #[.bool sg,.slice pa ka ca,.slice pb kb cb] 48)):=(Br _ _).alloc (Lr _) _;generalize w6.alloc (.cells #[.bool sg,.slice pa ka ca,.slice pb kb cb] 48)=w7 at *;have hVr:Var3 w7 (w.heap.size+1+1) (.bool false) (.slice none 0 0) (.slice none 0 0):=((HV.out.2.2.1.below (HK3.out.trans (HKd.out.mono HK3.out.size))).below HB6.out).below hB7
 have hlt:w.heap.size+2 < w6.heap.size:=by
  obtain⟨_,h0,_⟩:=HV.out.2.2.1;have h1:=(Array.getElem?_eq_some_iff.1 h0).1;have h2:=HK3.out.size;have h3:=HKd.out.size;have h4:=HB6.out.size;omega
 have hbel:=(hW3.out.trans (HB6.out.mono hW3.out.size)).trans (hB7.mono (Nat.le_trans hW3.out.size HB6.out.size));have hxr:=(((HQx3.out.below HKd.out).below HB6.out).below hB7);have hyr:=(((HQy.out.below HKd.out).below HB6.out).below hB7);obtain⟨_,_,⟨hsg,hFn⟩,hFd⟩:=open_frac (HF.out.below hB7);have HP:=hid (Ai hbel (Ai hVr (Ai hlt (Ai hsg hFn))))
 have HK:Hid (∀w',Keep (w.heap.size+1+1) w6.heap.size w7 (.bool sg) (.slice pa ka ca) (.slice pb kb cb) w'→(w'.cell? ⟨w6.heap.size,0,none⟩=some (.bool sg)∧w'.cell? ⟨w6.heap.size,1,none⟩=some (.slice pa ka ca)∧w'.cell? ⟨w6.heap.size,2,none⟩=some (.slice pb kb cb)∧Hid (Keep (w.heap.size+1+1) w6.heap.size w7 (.bool sg) (.slice pa ka ca) (.slice pb kb cb) w'))):=
  hid fun w' hb=>⟨hb.1.cells.1,hb.1.cells.2.1,hb.1.cells.2.2.1,hid hb⟩
 have HN7:Hid (w.heap.size+2≤w7.heap.size):=hid (Nat.le_trans (Nat.le_of_lt hlt) hB7.size);have HNe:Hid (w6.heap.size≠w.heap.size+1+1):=hid (by omega);have HVs:=hid hVs;have HK7:Hid (Keep (w.heap.size+1+1) w6.heap.size w7 (.bool sg) (.slice pa ka ca) (.slice pb kb cb) w7):=hid ⟨hVs,Br _ _⟩;have hM1:=hid (fun (W:World) (h:Bw w7 W)=>ropen (Mul_any _ _ t.2.2 x W (hFd.below h) (hxr.below h) (lt_big HX.out.2.2.2 (by omega)) (lt_big HX.out.1 (by omega))));have hM2:=hid (fun (W:World) (v:Value) (h:Bw w7 W) (hv:Rep W32 W v (t.2.2*x))=>ropen (Mul_any v _ (t.2.2*x) y W hv (hyr.below h) (lt_big (lt_mul (c:=8000000) HX.out.2.2.2 HX.out.1 (by omega)) (by omega)) (lt_big HX.out.2.1 (by omega))));clear hbel hVr hlt hsg hFn hFd hxr hyr hVs hB7 HF HB6 HG3 HQx3 HQy HR HB HT HCl HE
 go_region_held3 (fun w'=>w'.cell? ⟨w6.heap.size,0,none⟩=some (.bool sg)∧w'.cell? ⟨w6.heap.size,1,none⟩=some (.slice pa ka ca)∧w'.cell? ⟨w6.heap.size,2,none⟩=some (.slice pb kb cb)∧Hid (Keep (w.heap.size+1+1) w6.heap.size w7 (.bool sg) (.slice pa ka ca) (.slice pb kb cb) w'))
  (first | exact HK.out _ HK7.out.drew | exact HK.out _ (by assumption) | exact HK.out _ (Keep.store (by assumption) HNe.out (Lr _) _ _ _))
  (first
   | (go_at_call_of 133 kb;refine(hM1.out _ (Br _ _).drew).mono ?_;rintro e wm ⟨pm,km,cm,rfl,hRm,hBm⟩;have hKm:=held_any (Br _ _).drew hBm;have hKp:Keep (w.heap.size+1+1) w6.heap.size w7 (.bool sg) (.slice pa ka ca) (.slice pb kb cb) wm:=⟨HVs.out.below hKm,hKm.mono HN7.out⟩)
   | (go_at_call 133;refine(hM2.out _ _ hKm hRm.out).mono ?_;rintro e wq ⟨pq,kq,cq,rfl,hRq,hBq⟩;have hKq:=held_any hKm hBq;obtain⟨x0,x1,x2,y0,y1,y2⟩:=(HP.out.2.1.below hKq).cells;have hKr:Keep (w.heap.size+1+1) w6.heap.size w7 (.bool sg) (.slice pa ka ca) (.slice pb kb cb) wq:=⟨HVs.out.below hKq,hKq.mono HN7.out⟩))
 rename_i hHeld
 clear hHeld;go_wp2_with fail;have hVq:=HP.out.2.1.below hKq;exact FracAdd_ret rfl (hVq.store trivial trivial trivial) ⟨_,rfl,⟨_,_,by rw[HP.out.2.2.2.1],(HP.out.2.2.2.2.below hKq).store3 hVq _ _ _,hRq.out.store3 hVq _ _ _⟩,below_set3 (HP.out.1.trans (hKq.mono HP.out.1.size)) (by omega)⟩
theorem FromInt_ret{W:World}{B:Nat}{x y z:Value}{tm:Array Value}{R:Ending→World→Prop}(h2:tm[2]?.getD undef=.pointer (some ⟨B,0,none⟩))(hV:Var3 W B x y z)(hR:R (.returned (.agg #[x,y,z])) W):
  bodyPost Tryz.prog Tryz.f113 R .ret {tmps:=tm,defers:=[]} W:=by
 obtain⟨c0,c1,c2,_,_,_⟩:=hV.cells;exact bodyPost_ret (v:=.agg #[x,y,z]) (by simp [results,Tryz.results113,go_sem,h2,c0,c1,c2]) rfl hR
theorem one_W2:1 < W32 ^ 2:=by decide
theorem FracFromInt_any(n)(w:World)(hlo:-9223372036854775808≤n)(hhi:n < 9223372036854775808):
  Calls Tryz.prog 113 #[.int .i64 n] w fun e w'=>∃v',e=.returned v'∧FRep w' v' (decide (n < 0)) n.natAbs 1∧Bw w w':=by
 have hm2:n.natAbs < W32 ^ 2:=by
  have:W32 ^ 2=18446744073709551616:=by decide
  omega
 have HF:=hid (fun W=>FromUint_any n.natAbs W hm2);have HF1:=hid (fun W=>FromUint_any 1 W one_W2);clear hm2;obtain⟨m,hm⟩:∃m,m=n.natAbs:=⟨_,rfl⟩;rw[←hm] at HF ⊢
 by_cases h0:n < 0
 case' pos=>
  rw[decide_eq_true h0]
  have e1:IntKind.u64.wrap n=n+18446744073709551616:=by simp [IntKind.wrap,IntKind.bits,IntKind.signed];omega
  have e2:IntKind.u64.wrap (-(n+18446744073709551616))=(m:Int):=by simp [IntKind.wrap,IntKind.bits,IntKind.signed];omega
  have hd:decide (n < 0)=true:=decide_eq_true h0;clear hm hlo hhi;go_enter Tryz.func113,Tryz.ntmps113;go_wp2_with fail
 case' neg=>
  rw[decide_eq_false h0]
  obtain rfl:n=(m:Int):=by omega
  clear hm;go_enter Tryz.func113,Tryz.ntmps113;go_wp2_with fail
 all_goals
  refine(HF.out _).mono ?_
  rintro e w1 ⟨v1,rfl,hR1,hB1⟩
  go_wp2_with fail
  refine(HF1.out w1).mono ?_
  rintro e w2 ⟨v2,rfl,hR2,hB2⟩
  have hV:=((Var3.alloc w (x:=.bool false) (y:=.slice none 0 0) (z:=.slice none 0 0) 48 trivial trivial trivial).below hB1).below hB2
  have HP:=hid (Ai (hR1.below hB2) (Ai hR2 (Ai hV (((Br _ _).alloc (Lr _) (.cells #[.bool false,.slice none 0 0,.slice none 0 0] 48)).trans ((hB1.mono (by rw[World.size_alloc];omega)).trans (hB2.mono (by have:=hB1.size;rw[World.size_alloc] at this;omega)))))))
  obtain⟨x0,x1,x2,y0,y1,y2⟩:=hV.cells
  obtain⟨pa,ka,ca,rfl,_⟩:=hR1
  obtain⟨pb,kb,cb,rfl,_⟩:=hR2
  clear hB1 hB2 hV
  go_wp2_with fail
  exact FromInt_ret rfl (HP.out.2.2.1.store trivial trivial trivial) ⟨_,rfl,⟨_,_,rfl,HP.out.1.store3 HP.out.2.2.1 _ _ _,HP.out.2.1.store3 HP.out.2.2.1 _ _ _⟩,below_set3 HP.out.2.2.2 (Lr _)⟩
theorem Rat_ret{W:World}{B:Nat}{x y z ev:Value}{tm:Array Value}{R:Ending→World→Prop}(h2:tm[2]?.getD undef=.pointer (some ⟨B,0,none⟩))(h3:tm[3]?.getD undef=ev)(hV:Var3 W B x y z)
  (hR:R (.returned (.tuple #[.agg #[x,y,z],ev])) W):bodyPost Tryz.prog Tryz.f143 R .ret {tmps:=tm,defers:=[]} W:=by
 obtain⟨c0,c1,c2,_,_,_⟩:=hV.cells;exact bodyPost_ret (v:=.tuple #[.agg #[x,y,z],ev]) (by simp [results,Tryz.results143,go_sem,h2,h3,c0,c1,c2]) rfl hR
theorem held3'{N:Nat}{W0 W:World}{a b c:Prop}(h:a∧b∧c∧Hid (Below N W0 W)):Below N W0 W:=h.2.2.2.out
theorem below_al1{W0 W:World}(h:Bw W0 W)(o:Obj):Bw W0 (W.alloc o):=h.alloc h.size o
theorem held3_alloc{W0 W:World}{a b c:Prop}(h:a∧b∧c∧Hid (Bw W0 W))(o:Obj):Bw W0 (W.alloc o):=h.2.2.2.out.alloc h.2.2.2.out.size o
theorem held3_alloc'{W0 W:World}{a b c:Prop}(h:a∧b∧c∧Hid (Bw W0 W.drew))(o:Obj):Bw W0 (W.alloc o).drew:=
 (Below.alloc (w:=W.drew) h.2.2.2.out h.2.2.2.out.size o)
theorem Var3.set2{w:World}{B:Nat}{x y z z':Value}(h:Var3 w B x y z)(hz:NotInt z'):Var3 (w.setCell ⟨B,2,none⟩ z') B x y z':=by
 obtain⟨t,h0,hx,hy,_⟩:=h;exact⟨t,heap_setCell_same w B 2 _ t z' h0,hx,hy,hz⟩
theorem Var3.other1{w:World}{B C:Nat}{x y z:Value}(h:Var3 w B x y z)(hne:B≠C)(k:Nat)(u:Value):Var3 (w.setCell ⟨C,k,none⟩ u) B x y z:=by
 obtain⟨t,h0,h1⟩:=h;exact⟨t,by rw[Below.heap_setCell _ _ _ _ hne];exact h0,h1⟩
theorem Rep.set1{D:Nat}{w:World}{B:Nat}{a b c:Value}{v:Value}{n:Nat}(h:Rep D w v n)(hV:Var3 w B a b c)(k:Nat)(u:Value):Rep D (w.setCell ⟨B,k,none⟩ u) v n:=by
 obtain⟨p,m,cap,hv,hk,hl,hs⟩:=h;refine⟨p,m,cap,hv,hk,hl,fun h0=>?_⟩;obtain⟨bb,off,hp,hc⟩:=hs h0;obtain⟨t,h1,na,nb,nc⟩:=hV
 have hne:bb≠B:=by
  rintro rfl;have hc0:=hc 0 h0;rw[Nat.add_zero] at hc0;simp only[World.cell?,h1] at hc0
  rcases off with _ | _ | _ | off
  ·simp at hc0;subst hc0;exact na
  ·simp at hc0;subst hc0;exact nb
  ·simp at hc0;subst hc0;exact nc
  ·simp at hc0
 refine⟨bb,off,hp,fun j hj=>?_⟩;rw[World.cell?_of_block (w:=w) (a:=⟨bb,off+j,none⟩)]
 ·exact hc j hj
 ·show(w.setCell ⟨B,k,none⟩ u).heap[bb]?=_;rw[Below.heap_setCell _ _ _ _ hne]
def den0 (d:Nat):Nat:=if d=1 then 0 else d
theorem FracRat_any(v:Value)(s:Bool)(n d:Nat)(w:World)(h:FRep w v s n d)(hn:n < W32 ^ 1000000000)(hd:d < W32 ^ 1000000000):
  Calls Tryz.prog 143 #[v] w fun e w'=>Bw w w'∧
   ((big n d=true∧e=.returned (.tuple #[zeroF,.int .i64 1]))∨
    (big n d=false∧∃v',e=.returned (.tuple #[v',.int .i64 0])∧FRep w' v' s n (den0 d))):=by
 obtain⟨vn,vd,rfl,hrn,hrd⟩:=h;have HR:=hid (Ai hrn hrd);obtain⟨p1,k1,c1,rfl,_⟩:=hrn;obtain⟨p2,k2,c2,rfl,_⟩:=hrd;have HN:=hid (Ai hn hd);clear hn hd;go_enter Tryz.func143,Tryz.ntmps143;go_wp2_with fail;have hVa:=(Var3.alloc w (x:=.bool s) (y:=.slice p1 k1 c1) (z:=.slice p2 k2 c2) 48 trivial trivial trivial).below ((Br _ _).alloc (Lr _) (.cells #[.bool false,.slice none 0 0,.slice none 0 0] 24));have hVr:=Var3.alloc2 w (.cells #[.bool s,.slice p1 k1 c1,.slice p2 k2 c2] 48) (x:=.bool false) (y:=.slice none 0 0) (z:=.slice none 0 0) 24 trivial trivial trivial;have hB0:=below_alloc2 w (.cells #[.bool s,.slice p1 k1 c1,.slice p2 k2 c2] 48) (.cells #[.bool false,.slice none 0 0,.slice none 0 0] 24);generalize hW0:(w.alloc (.cells #[.bool s,.slice p1 k1 c1,.slice p2 k2 c2] 48)).alloc (.cells #[.bool false,.slice none 0 0,.slice none 0 0] 24)=W0 at *;clear hW0;have hL:=hid (large_any (.agg #[.bool s,.slice p1 k1 c1,.slice p2 k2 c2]) s n d W0 ⟨_,_,rfl,HR.out.1.below hB0,HR.out.2.below hB0⟩ HN.out.1 HN.out.2);refine hL.out.mono ?_;rintro e w1 ⟨rfl,hB1⟩
 have HP:Hid ((Rep W32 w1 (.slice p1 k1 c1) n∧Rep W32 w1 (.slice p2 k2 c2) d)∧(Var3 w1 w.heap.size (.bool s) (.slice p1 k1 c1) (.slice p2 k2 c2)∧Var3 w1 (w.heap.size+1) (.bool false) (.slice none 0 0) (.slice none 0 0))∧Bw w w1):=
  hid ⟨⟨(HR.out.1.below hB0).below hB1,(HR.out.2.below hB0).below hB1⟩,⟨hVa.below hB1,hVr.below hB1⟩,hB0.trans (hB1.mono hB0.size)⟩
 clear hVa hVr hB0 hL hB1 HR;obtain⟨bb,hbb⟩:∃bb,bb=big n d:=⟨_,rfl⟩;rw[←hbb];have HBB:=hid hbb;clear hbb;obtain⟨a0,a1,a2,_,_,_⟩:=HP.out.2.1.1.cells;obtain⟨x0,x1,x2,y0,y1,y2⟩:=HP.out.2.1.2.cells
 have HS:Hid (∀w',Bw w1 w'→(w'.cell? ⟨w.heap.size,0,none⟩=some (.bool s)∧w'.cell? ⟨w.heap.size,1,none⟩=some (.slice p1 k1 c1)∧w'.cell? ⟨w.heap.size,2,none⟩=some (.slice p2 k2 c2)∧Hid (Bw w1 w'))):=
  hid fun w' hb=>⟨(HP.out.2.1.1.below hb).cells.1,(HP.out.2.1.1.below hb).cells.2.1,(HP.out.2.1.1.below hb).cells.2.2.1,hid hb⟩
 have hWd:=hid (fun (W:World) (hW:Bw w1 W)=>words_any (.slice p1 k1 c1) n W (HP.out.1.1.below hW) HN.out.1);cases bb
 ·clear a0 a1 a2 x0 x1 x2;go_wp2_with fail
  go_region_held3 (fun w'=>w'.cell? ⟨w.heap.size,0,none⟩=some (.bool s)∧w'.cell? ⟨w.heap.size,1,none⟩=some (.slice p1 k1 c1)∧w'.cell? ⟨w.heap.size,2,none⟩=some (.slice p2 k2 c2)∧Hid (Bw w1 w'))
   (first | exact HS.out _ (Br _ _).drew | (exact HS.out _ (by assumption)) | (exact HS.out _ (held3_alloc (by assumption) _)) | (exact HS.out _ (held3_alloc' (by assumption) _)) | (exact HS.out _ (below_al1 (by assumption) _)) | (exact HS.out _ (below_set3 (by assumption) (Lr _))))
   (first
    | (go_at_call 163;refine(hWd.out _ (held3' (by assumption))).mono ?_;rintro e wc ⟨vc,rfl,hRc,hBc⟩;have hKc:=held_any (held3' (W0:=w1) (by assumption)) hBc;obtain⟨pa,ka,ca,rfl,hRc'⟩:=id hRc;clear hRc';try (have hVn:=((Var3.alloc w1 (x:=.bool false) (y:=.slice none 0 0) (z:=.slice none 0 0) 24 trivial trivial trivial).below (Br _ _).drew).below hBc;obtain⟨x0,x1,x2,y0,y1,y2⟩:=id hVn.cells)))
  all_goals
   rename_i hHeld
   clear hHeld
   first
    | (have hVX:Hid (Var3 (((wc.setCell ⟨w1.heap.size,0,none⟩ (.bool s)).setCell ⟨w1.heap.size,1,none⟩ (.slice pa ka ca)).setCell ⟨w1.heap.size,2,none⟩ (.slice none 0 0)) w1.heap.size (.bool s) (.slice pa ka ca) (.slice none 0 0)):=hid (hVn.store trivial trivial trivial)
       have hRX:=hid (hRc.store3 hVn (.bool s) (.slice pa ka ca) (.slice none 0 0))
       have hKX:Hid (Bw w1 (((wc.setCell ⟨w1.heap.size,0,none⟩ (.bool s)).setCell ⟨w1.heap.size,1,none⟩ (.slice pa ka ca)).setCell ⟨w1.heap.size,2,none⟩ (.slice none 0 0))):=hid (below_set3 hKc (Lr _))
       have hXX:w1.heap.size≤w1.heap.size:=Lr _
       clear hBc hVn x0 x1 x2 y0 y1 y2 hRc
       generalize(((wc.setCell ⟨w1.heap.size,0,none⟩ (.bool s)).setCell ⟨w1.heap.size,1,none⟩ (.slice pa ka ca)).setCell ⟨w1.heap.size,2,none⟩ (.slice none 0 0))=WX at *
       obtain⟨X,hX⟩:∃X,X=w1.heap.size:=⟨_,rfl⟩
       rw[←hX] at hVX ⊢
       have hXX:w1.heap.size≤X:=by omega
       clear hX)
    | (have hVX:Hid (Var3 (wc.alloc (.cells #[.bool s,.slice pa ka ca,.slice none 0 0] 24)) wc.heap.size (.bool s) (.slice pa ka ca) (.slice none 0 0)):=hid (Var3.alloc wc 24 trivial trivial trivial)
       have hRX:=hid (hRc.alloc (.cells #[.bool s,.slice pa ka ca,.slice none 0 0] 24))
       have hKX:=hid (below_al1 hKc (.cells #[.bool s,.slice pa ka ca,.slice none 0 0] 24))
       have hXX:w1.heap.size≤wc.heap.size:=hKc.size
       clear hBc hRc
       generalize(wc.alloc (.cells #[.bool s,.slice pa ka ca,.slice none 0 0] 24))=WX at *
       generalize wc.heap.size=X at *)
   clear hKc hWd
   obtain⟨b0,b1,b2,_⟩:=HS.out WX hKX.out
   have hOne:=IsOne_any _ d WX (HP.out.1.2.below hKX.out)
   have HP2:Hid ((Rep W32 WX (.slice pa ka ca) n∧Rep W32 WX (.slice p2 k2 c2) d)∧Var3 WX X (.bool s) (.slice pa ka ca) (.slice none 0 0)∧Var3 WX (w.heap.size+1) (.bool false) (.slice none 0 0) (.slice none 0 0)∧Bw w WX):=
    hid ⟨⟨hRX.out,HP.out.1.2.below hKX.out⟩,hVX.out,HP.out.2.1.2.below hKX.out,HP.out.2.2.trans (hKX.out.mono HP.out.2.2.size)⟩
   have hne:w.heap.size+1 < X:=by obtain⟨_,h0,_⟩:=HP.out.2.1.2;exact Nat.lt_of_lt_of_le (Array.getElem?_eq_some_iff.1 h0).1 hXX
   clear HP HS hRX hKX hVX hXX
   by_cases h1:d=1
   ·rw[decide_eq_true h1] at hOne
    have H1:=hid h1;clear h1;go_wp2_with fail;refine hOne.mono ?_;rintro e w' ⟨rfl,rfl⟩;clear hOne;obtain⟨x0,x1,x2,_⟩:=HP2.out.2.1.cells;obtain⟨z0,z1,z2,r0,r1,r2⟩:=HP2.out.2.2.1.cells;go_wp2_with fail;exact Rat_ret rfl rfl (HP2.out.2.2.1.store trivial trivial trivial) ⟨below_set3 HP2.out.2.2.2 (Nat.le_succ _),.inr ⟨HBB.out.symm,_,rfl,_,_,rfl,HP2.out.1.1.store3 HP2.out.2.2.1 _ _ _,by rw[H1.out];exact Rep.nil⟩⟩
   ·rw[decide_eq_false h1] at hOne
    have H1:=hid h1;clear h1;go_wp2_with fail;refine hOne.mono ?_;rintro e w' ⟨rfl,rfl⟩;clear hOne;go_upto_region 6 with fail;refine(words_any _ d WX HP2.out.1.2 HN.out.2).mono ?_;rintro e w3 ⟨vq,rfl,hRq,hBq⟩;obtain⟨pb,kb,cb,rfl,_⟩:=id hRq;obtain⟨x0,x1,x2,m0,m1,m2⟩:=(HP2.out.2.1.below hBq).cells;go_upto_region 6 with fail
    have HP3:Hid ((Rep W32 (w3.setCell ⟨X,2,none⟩ (.slice pb kb cb)) (.slice pa ka ca) n∧Rep W32 (w3.setCell ⟨X,2,none⟩ (.slice pb kb cb)) (.slice pb kb cb) d)∧Var3 (w3.setCell ⟨X,2,none⟩ (.slice pb kb cb)) X (.bool s) (.slice pa ka ca) (.slice pb kb cb)∧Var3 (w3.setCell ⟨X,2,none⟩ (.slice pb kb cb)) (w.heap.size+1) (.bool false) (.slice none 0 0) (.slice none 0 0)∧Bw w (w3.setCell ⟨X,2,none⟩ (.slice pb kb cb))):=
     hid ⟨⟨(HP2.out.1.1.below hBq).set1 (HP2.out.2.1.below hBq) _ _,hRq.set1 (HP2.out.2.1.below hBq) _ _⟩,(HP2.out.2.1.below hBq).set2 trivial,(HP2.out.2.2.1.below hBq).other1 (Nat.ne_of_lt hne) _ _,(HP2.out.2.2.2.trans (hBq.mono HP2.out.2.2.2.size)).setCell (by show w.heap.size≤X;omega) _⟩
    clear hRq hBq x0 x1 x2 m0 m1 m2;generalize w3.setCell ⟨X,2,none⟩ (.slice pb kb cb)=W4 at *;obtain⟨x0,x1,x2,_⟩:=HP3.out.2.1.cells;obtain⟨z0,z1,z2,r0,r1,r2⟩:=HP3.out.2.2.1.cells;go_wp2_with fail;exact Rat_ret rfl rfl (HP3.out.2.2.1.store trivial trivial trivial) ⟨below_set3 HP3.out.2.2.2 (Nat.le_succ _),.inr ⟨HBB.out.symm,_,rfl,_,_,rfl,HP3.out.1.1.store3 HP3.out.2.2.1 _ _ _,by rw[show den0 d=d from if_neg H1.out];exact HP3.out.1.2.store3 HP3.out.2.2.1 _ _ _⟩⟩
 ·go_wp2_with fail;exact Rat_ret rfl rfl (HP.out.2.1.2.store trivial trivial trivial) ⟨below_set3 HP.out.2.2 (Nat.le_succ _),.inl ⟨HBB.out.symm,rfl⟩⟩
end Go.Proofs.YteblinkehldghaaGreatDoor
