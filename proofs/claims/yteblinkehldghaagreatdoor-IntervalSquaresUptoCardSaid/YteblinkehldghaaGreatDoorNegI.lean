/- Operations on an interval: ask. -/
import Derived.Test.YteblinkehldghaaGreatDoorIvC
import Derived.Test.YteblinkehldghaaGreatDoorEndsB
import Derived.Test.YteblinkehldghaaGreatDoorHasU
import Derived.Test.YteblinkehldghaaGreatDoorSam
import Derived.Test.YteblinkehldghaaGreatDoorBothI
import Derived.WalkSmall
namespace Go.Proofs.YteblinkehldghaaGreatDoor
open Go.RowKit Dg
open And renaming intro→Ai
theorem fin_zero{f:FuncId}{args:Array Value}{w:World}{c}(h:Calls Tryz.prog f args w fun e w'=>e=.returned (.tuple #[.agg #[.bool false,.slice none 0 0,.slice none 0 0,.bool false,.slice none 0 0,.slice none 0 0,.bool false,.bool false],.int .i64 c])∧Bw w w'):
  Calls Tryz.prog f args w fun e w'=>∃s5 p5 k5 c5 q5 l5 d5 sz5 pz5 kz5 cz5 qz5 lz5 dz5 x5 y5,e=.returned (.tuple #[.agg #[.bool s5,.slice p5 k5 c5,.slice q5 l5 d5,.bool sz5,.slice pz5 kz5 cz5,.slice qz5 lz5 dz5,.bool x5,.bool y5],.int .i64 c])∧Hid (GRep w' (.agg #[.bool s5,.slice p5 k5 c5,.slice q5 l5 d5,.bool sz5,.slice pz5 kz5 cz5,.slice qz5 lz5 dz5,.bool x5,.bool y5]) gzero)∧Bw w w':=by
 refine h.mono ?_;rintro e w' ⟨rfl,hB⟩;exact⟨_,_,_,_,_,_,_,_,_,_,_,_,_,_,_,_,rfl,hid (GRep.zero w'),hB⟩
theorem w64_not_big{n d:Nat}(hn:n < W32 ^ 64)(hd:d < W32 ^ 64):big n d=false:=by
 unfold big;rw[decide_eq_false];intro h;omega
set_option maxHeartbeats 4000000
set_option maxRecDepth 100000
theorem rSame_eq(s1 p1 k1 c1 q1 l1 d1 s2 p2 k2 c2 q2 l2 d2)(t:Tq)(w:World)(h1:NRep w (.agg #[.bool s1,.slice p1 k1 c1,.slice q1 l1 d1]) t)(h2:NRep w (.agg #[.bool s2,.slice p2 k2 c2,.slice q2 l2 d2]) t)(hL:large t.2.1 t.2.2=false):
  Calls Tryz.prog 71 #[.agg #[.bool s1,.slice p1 k1 c1,.slice q1 l1 d1],.agg #[.bool s2,.slice p2 k2 c2,.slice q2 l2 d2]] w fun e w'=>e=.returned (.bool true)∧Bw w w':=by
 have HO1:=hid (fun (W:World) (hW:Bw w W)=>rOfF_any (.agg #[.bool s1,.slice p1 k1 c1,.slice q1 l1 d1]) t W (h1.below hW) hL);have HO2:=hid (fun (W:World) (hW:Bw w W)=>rOfF_any (.agg #[.bool s2,.slice p2 k2 c2,.slice q2 l2 d2]) t W (h2.below hW) hL);have HC:=hid (fun (W:World) (v1 v2:Value) (q1:QNorm W v1 (fr t)) (q2:QNorm W v2 (fr t))=>rCmp_self v1 v2 (fr t) W q1 q2 (.inl (qok_fr hL)));clear h1 h2 hL;obtain⟨r,hr⟩:∃r,r=fr t:=⟨_,rfl⟩;rw[←hr] at HO1 HO2 HC;clear hr;go_enter Tryz.func71,Tryz.ntmps71;go_upto_region 1 with fail;generalize hA:World.alloc _ _=W0;have HV:=hid (pre2_o hA nd3 nd3);clear hA;have HQ:=hid (QQ.i2 (cs:=[.bool s1,.slice p1 k1 c1,.slice q1 l1 d1]) (cs':=[.bool s2,.slice p2 k2 c2,.slice q2 l2 d2]) HV.out.1 HV.out.2.1 HV.out.2.2);have HS:=hid (fun (w':World) (hb:QQ w [(w.heap.size,[.bool s1,.slice p1 k1 c1,.slice q1 l1 d1]),(w.heap.size+1,[.bool s2,.slice p2 k2 c2,.slice q2 l2 d2])] w')=>hb.s_3_3)
 go_region_held3 (fun w'=>w'.cell? ⟨w.heap.size,0,none⟩=some (.bool s1)∧w'.cell? ⟨w.heap.size,1,none⟩=some (.slice p1 k1 c1)∧w'.cell? ⟨w.heap.size,2,none⟩=some (.slice q1 l1 d1)∧w'.cell? ⟨w.heap.size+1,0,none⟩=some (.bool s2)∧w'.cell? ⟨w.heap.size+1,1,none⟩=some (.slice p2 k2 c2)∧w'.cell? ⟨w.heap.size+1,2,none⟩=some (.slice q2 l2 d2)∧Hid (QQ w [(w.heap.size,[.bool s1,.slice p1 k1 c1,.slice q1 l1 d1]),(w.heap.size+1,[.bool s2,.slice p2 k2 c2,.slice q2 l2 d2])] w'))
  (first | (refine HS.out _ ?_;first | (with_reducible exact HQ.out.drew) | (with_reducible assumption)))
  (first
   | (go_at_call_of 94 p1;refine(HO1.out _ HQ.out.drew.bel).mono ?_;rintro e wa ⟨s3,p3,k3,c3,q3,l3,d3,rfl,hF3,hB1⟩;have hQ1:=HQ.out.drew.call hB1)
   | (go_at_call_of 94 p2;refine(HO2.out _ hQ1.bel).mono ?_;rintro e wb ⟨s4,p4,k4,c4,q4,l4,d4,rfl,hF4,hB2⟩;have hQ2:=hQ1.call hB2;have hF5:=hid (QNorm.below hF3.out hB2))
   | (go_at_call 65;refine(HC.out _ _ _ hF5.out hF4.out).mono ?_;rintro e wd ⟨rfl,hB3⟩;have hQ3:=hQ2.call hB3))
 all_goals
  have HE5:=hid hQ3.bel
  clear hQ1 hQ2 hQ3 hB1 hB2 hB3 hF3 hF4 hF5
  go_wp2_with fail
  go_ret
  exact⟨rfl,HE5.out⟩
theorem is3_eq(s1 p1 k1 c1 q1 l1 d1 sz1 pz1 kz1 cz1 qz1 lz1 dz1 x1 y1 s2 p2 k2 c2 q2 l2 d2 sz2 pz2 kz2 cz2 qz2 lz2 dz2 x2 y2)(w:World)
  (hC:∀W,Bw w W→Calls Tryz.prog 33 #[.agg #[.bool s1,.slice p1 k1 c1,.slice q1 l1 d1,.bool sz1,.slice pz1 kz1 cz1,.slice qz1 lz1 dz1,.bool x1,.bool y1]] W fun e w'=>e=.returned (.bool true)∧Bw W w')
  (hS:∀W,Bw w W→Calls Tryz.prog 34 #[.agg #[.bool s1,.slice p1 k1 c1,.slice q1 l1 d1,.bool sz1,.slice pz1 kz1 cz1,.slice qz1 lz1 dz1,.bool x1,.bool y1],.agg #[.bool s2,.slice p2 k2 c2,.slice q2 l2 d2,.bool sz2,.slice pz2 kz2 cz2,.slice qz2 lz2 dz2,.bool x2,.bool y2]] W fun e w'=>e=.returned (.bool true)∧Bw W w'):
  Calls Tryz.prog 11 #[.agg #[.bool s1,.slice p1 k1 c1,.slice q1 l1 d1,.bool sz1,.slice pz1 kz1 cz1,.slice qz1 lz1 dz1,.bool x1,.bool y1],.int .i64 0,.agg #[.bool s2,.slice p2 k2 c2,.slice q2 l2 d2,.bool sz2,.slice pz2 kz2 cz2,.slice qz2 lz2 dz2,.bool x2,.bool y2],.int .i64 0] w fun e w'=>e=.returned (.bool true)∧Bw w w':=by
 have HC:=hid hC;have HS:=hid hS;clear hC hS;go_enter Tryz.func11,Tryz.ntmps11;go_wp2_with fail;generalize hA:World.alloc _ _=W0;have HV:=hid (pre2_o hA nd8 nd8);clear hA;refine(HC.out _ HV.out.2.2).mono ?_;rintro e w1 ⟨rfl,hB1⟩;have HE:=hid (Ai (HV.out.1.below hB1) (Ai (HV.out.2.1.below hB1) (HV.out.2.2.trans (hB1.mono HV.out.2.2.size))));clear hB1;obtain⟨m0,m1,m2,m3,m4,m5,m6,m7,_⟩:=HE.out.1.cells8;obtain⟨n0,n1,n2,n3,n4,n5,n6,n7,_⟩:=HE.out.2.1.cells8;go_wp2_with fail;refine(HS.out _ HE.out.2.2).mono ?_;rintro e w2 ⟨rfl,hB2⟩;have HE2:=hid (HE.out.2.2.trans (hB2.mono HE.out.2.2.size));clear hB2;go_wp2_with fail
 go_ret
 exact⟨rfl,HE2.out⟩
theorem none3_any(s1 p1 k1 c1 q1 l1 d1 sz1 pz1 kz1 cz1 qz1 lz1 dz1 x1 y1)(w:World)(hG:GRep w (.agg #[.bool s1,.slice p1 k1 c1,.slice q1 l1 d1,.bool sz1,.slice pz1 kz1 cz1,.slice qz1 lz1 dz1,.bool x1,.bool y1]) gzero):Calls Tryz.prog 32 #[.agg #[.bool s1,.slice p1 k1 c1,.slice q1 l1 d1,.bool sz1,.slice pz1 kz1 cz1,.slice qz1 lz1 dz1,.bool x1,.bool y1]] w fun e w'=>e=.returned (.bool true)∧Bw w w':=by
 obtain⟨h1,h2,hx,hy⟩:=GRep.parts s1 p1 k1 c1 q1 l1 d1 sz1 pz1 kz1 cz1 qz1 lz1 dz1 x1 y1 hG;have HN:=hid (fun (W:World) (hW:Bw w W)=>None_any (.agg #[.bool s1,.slice p1 k1 c1,.slice q1 l1 d1]) W (FNorm.below h1 hW));have HM:=hid (fun (W:World) (hW:Bw w W)=>None_any (.agg #[.bool sz1,.slice pz1 kz1 cz1,.slice qz1 lz1 dz1]) W (FNorm.below h2 hW));have hx':x1=false:=hx;have hy':y1=false:=hy;subst hx' hy';clear hG h1 h2 hx hy;go_enter Tryz.func32,Tryz.ntmps32;go_wp2_with fail;generalize hA:World.alloc _ _=W0;have HV:=hid (pre1_o hA nd8);clear hA;refine(HN.out W0 HV.out.2).mono ?_;rintro e w1 ⟨rfl,hB1⟩;have HE:=hid (Ai (HV.out.1.below hB1) (HV.out.2.trans (hB1.mono HV.out.2.size)));clear hB1;obtain⟨m0,m1,m2,m3,m4,m5,m6,m7,_⟩:=HE.out.1.cells8;go_wp2_with fail;refine(HM.out w1 HE.out.2).mono ?_;rintro e w2 ⟨rfl,hB2⟩;have HE2:=hid (Ai (HE.out.1.below hB2) (HE.out.2.trans (hB2.mono HE.out.2.size)));clear hB2 m0 m1 m2 m3 m4 m5 m6 m7;obtain⟨m0,m1,m2,m3,m4,m5,m6,m7,_⟩:=HE2.out.1.cells8;go_wp2_with fail
 go_ret
 exact⟨rfl,HE2.out.2⟩
theorem is3_err(s1 p1 k1 c1 q1 l1 d1 sz1 pz1 kz1 cz1 qz1 lz1 dz1 x1 y1 s2 p2 k2 c2 q2 l2 d2 sz2 pz2 kz2 cz2 qz2 lz2 dz2 x2 y2 c)(w:World)(hc:c≠0)(hG:GRep w (.agg #[.bool s1,.slice p1 k1 c1,.slice q1 l1 d1,.bool sz1,.slice pz1 kz1 cz1,.slice qz1 lz1 dz1,.bool x1,.bool y1]) gzero):
  Calls Tryz.prog 11 #[.agg #[.bool s1,.slice p1 k1 c1,.slice q1 l1 d1,.bool sz1,.slice pz1 kz1 cz1,.slice qz1 lz1 dz1,.bool x1,.bool y1],.int .i64 c,.agg #[.bool s2,.slice p2 k2 c2,.slice q2 l2 d2,.bool sz2,.slice pz2 kz2 cz2,.slice qz2 lz2 dz2,.bool x2,.bool y2],.int .i64 c] w fun e w'=>e=.returned (.bool true)∧Bw w w':=by
 have h1:(c != c)=false:=by simp
 have h2:(c != 0)=true:=by simpa using hc
 have HN:=hid (fun (W:World) (hW:Bw w W)=>none3_any s1 p1 k1 c1 q1 l1 d1 sz1 pz1 kz1 cz1 qz1 lz1 dz1 x1 y1 W (hG.below hW));clear hc hG;go_enter Tryz.func11,Tryz.ntmps11;go_wp2_with fail;generalize hA:World.alloc _ _=W0;have HV:=hid (pre2_o hA nd8 nd8);clear hA;refine(HN.out W0 HV.out.2.2).mono ?_;rintro e w1 ⟨rfl,hB1⟩;have HE:=hid (HV.out.2.2.trans (hB1.mono HV.out.2.2.size));clear hB1;go_wp2_with fail
 go_ret
 exact⟨rfl,HE.out⟩
def QFit (t:Tq):Prop:=IsFr t∧t.2.1 < W32 ^ 64∧t.2.2 < W32 ^ 64
def JGood (r:Tj):Prop:=
 r=jnone∨(r.2.2.2.2=false∧((r.2.2.1=true∧r.1=(false,0,0))∨(r.2.2.1=false∧QFit r.1))∧((r.2.2.2.1=true∧r.2.1=(false,0,0))∨(r.2.2.2.1=false∧QFit r.2.1))∧(r.2.2.1=false→r.2.2.2.1=false→fcmp r.1 r.2.1≤0))
theorem QFit.of{a:Tq}(h:large a.2.1 a.2.2=false):QFit (fr a):=⟨IsFr.fr a,(fr_bd h).1,(fr_bd h).2⟩
theorem JGood.of{a b:Tq}{x y:Bool}(h1:large a.2.1 a.2.2=false)(h2:large b.2.1 b.2.2=false):JGood (jof (a,b,x,y)):=by
 unfold jof
 split
 ·exact .inl rfl
 case isFalse hn=>
  refine .inr ⟨rfl,?_,?_,?_⟩
  ·cases x
   ·exact .inr ⟨rfl,QFit.of h1⟩
   ·exact .inl ⟨rfl,rfl⟩
  ·cases y
   ·exact .inr ⟨rfl,QFit.of h2⟩
   ·exact .inl ⟨rfl,rfl⟩
  ·intro hx hy;have hx':x=false:=hx;have hy':y=false:=hy;subst hx' hy';simp at hn;exact hn
theorem QFit.jrat{t:Tq}(h:QFit t):jrat t=outF t:=rat_out h.1.pos h.1.zs
theorem QFit.fr{t:Tq}(h:QFit t):fr (outF t)=t:=by
 obtain⟨s,n,d,hd,rfl⟩:=h.1;have hc:=(canon_out (s:=s) (n:=n) hd).1;rw[mkq_fr] at hc
 have e:den1 (den0 (frac s n d).2.2)=(frac s n d).2.2:=by
  have:=frac_pos (s:=s) (n:=n) hd;unfold den1 den0
  by_cases h:(frac s n d).2.2=1<;>simp [h]<;>omega
 show frac (outF (frac s n d)).1 (outF (frac s n d)).2.1 (den1 (outF (frac s n d)).2.2)=_;rw[hc];show((frac s n d).1,(frac s n d).2.1,den1 (den0 (frac s n d).2.2))=_;rw[e]
theorem not_large{n d:Nat}(hn:n < W32 ^ 64)(hd:d < W32 ^ 64):large n d=false:=by
 have h:W32 ^ 64≤W32 ^ 256:=Nat.pow_le_pow_right W32_pos (by omega);rw[large_short (decide_eq_false (by omega))]
 have h1:den1 d < W32 ^ 64:=by
  unfold den1
  split
  ·exact Nat.one_lt_pow (by omega) (by decide)
  ·exact hd
 exact w64_not_big (Nat.lt_of_le_of_lt (Nat.div_le_self _ _) hn) (Nat.lt_of_le_of_lt (Nat.div_le_self _ _) h1)
def RFit (u:Tq):Prop:=large u.2.1 u.2.2=false∧Canon u.1 u.2.1 u.2.2∧Few u
theorem QFit.out{t:Tq}(h:QFit t):RFit (outF t):=by
 obtain⟨s,n,d,hd,rfl⟩:=h.1
 have hd0:den0 (frac s n d).2.2 < W32 ^ 64:=by
  unfold den0
  split
  ·exact Nat.pow_pos W32_pos
  ·exact h.2.2
 exact⟨not_large h.2.1 hd0,canon_out hd,few_out h.2.1 h.2.2⟩
theorem RFit.zero:RFit (false,0,0):=⟨not_large (Nat.pow_pos W32_pos) (Nat.pow_pos W32_pos),by constructor<;>decide,⟨Nat.pow_pos W32_pos,Nat.pow_pos W32_pos⟩⟩
theorem RFit.one:RFit (false,1,0):=⟨not_large (Nat.one_lt_pow (by omega) (by decide)) (Nat.pow_pos W32_pos),by constructor<;>decide,⟨Nat.one_lt_pow (by omega) (by decide),Nat.pow_pos W32_pos⟩⟩
theorem jrat_zero:jrat (false,0,0)=(false,0,0):=by decide
theorem JGood.ends{r:Tj}(h:JGood r):RFit (japi r).1∧RFit (japi r).2.1:=by
 rcases h with rfl | ⟨he,hl,hh,_⟩
 ·exact⟨RFit.one,RFit.zero⟩
 ·unfold japi;rw[he];refine⟨?_,?_⟩
  ·rcases hl with ⟨_,hl⟩ | ⟨_,hl⟩
   ·show RFit (Go.Proofs.YteblinkehldghaaGreatDoor.jrat r.1);rw[hl,jrat_zero];exact RFit.zero
   ·show RFit (Go.Proofs.YteblinkehldghaaGreatDoor.jrat r.1);rw[hl.jrat];exact hl.out
  ·rcases hh with ⟨_,hl⟩ | ⟨_,hl⟩
   ·show RFit (Go.Proofs.YteblinkehldghaaGreatDoor.jrat r.2.1);rw[hl,jrat_zero];exact RFit.zero
   ·show RFit (Go.Proofs.YteblinkehldghaaGreatDoor.jrat r.2.1);rw[hl.jrat];exact hl.out
theorem JGood.back{r:Tj}(h:JGood r):jof (japi r)=r:=by
 rcases h with rfl | ⟨he,hl,hh,hc⟩
 ·decide
 ·obtain⟨lo,hi,x,y,e⟩:=r;have he':e=false:=he;subst he';show(if !x && !y && decide (0 < fcmp (Go.Proofs.YteblinkehldghaaGreatDoor.fr (Go.Proofs.YteblinkehldghaaGreatDoor.jrat lo)) (Go.Proofs.YteblinkehldghaaGreatDoor.fr (Go.Proofs.YteblinkehldghaaGreatDoor.jrat hi))) then jnone else (if x then (false,0,0) else Go.Proofs.YteblinkehldghaaGreatDoor.fr (Go.Proofs.YteblinkehldghaaGreatDoor.jrat lo),if y then (false,0,0) else Go.Proofs.YteblinkehldghaaGreatDoor.fr (Go.Proofs.YteblinkehldghaaGreatDoor.jrat hi),x,y,false))=(lo,hi,x,y,false)
  have h1:x=false→Go.Proofs.YteblinkehldghaaGreatDoor.fr (Go.Proofs.YteblinkehldghaaGreatDoor.jrat lo)=lo:=by
   intro hx
   rcases hl with ⟨hq,_⟩ | ⟨_,hq⟩
   ·rw[show x=true from hq] at hx;exact absurd hx (by decide)
   ·have hq':QFit lo:=hq;rw[hq'.jrat,hq'.fr]
  have h2:y=false→Go.Proofs.YteblinkehldghaaGreatDoor.fr (Go.Proofs.YteblinkehldghaaGreatDoor.jrat hi)=hi:=by
   intro hx
   rcases hh with ⟨hq,_⟩ | ⟨_,hq⟩
   ·rw[show y=true from hq] at hx;exact absurd hx (by decide)
   ·have hq':QFit hi:=hq;rw[hq'.jrat,hq'.fr]
  have h3:x=true→lo=(false,0,0):=by
   intro hx
   rcases hl with ⟨_,hq⟩ | ⟨hq,_⟩
   ·exact hq
   ·rw[show x=false from hq] at hx;exact absurd hx (by decide)
  have h4:y=true→hi=(false,0,0):=by
   intro hx
   rcases hh with ⟨_,hq⟩ | ⟨hq,_⟩
   ·exact hq
   ·rw[show y=false from hq] at hx;exact absurd hx (by decide)
  cases x<;>cases y
  ·rw[h1 rfl,h2 rfl];have:=hc rfl rfl;rw[decide_eq_false (show ¬(0 < fcmp lo hi) from Int.not_lt.2 this)];rfl
  ·rw[h1 rfl,h4 rfl];rfl
  ·rw[h2 rfl,h3 rfl];rfl
  ·rw[h3 rfl,h4 rfl];rfl
theorem QFit.ok{t:Tq}(h:QFit t):QOk t:=⟨h.1,lt_b1000 h.2.1,lt_b1000 h.2.2⟩
theorem JGood.cmp{r:Tj}(h:JGood r):JCmp r:=by
 rcases h with rfl | ⟨_,hl,hh,_⟩
 ·exact⟨.inr rfl,.inr rfl⟩
 ·refine⟨?_,?_⟩
  ·rcases hl with ⟨_,hl⟩ | ⟨_,hl⟩
   ·exact .inr hl
   ·exact .inl hl.ok
  ·rcases hh with ⟨_,hl⟩ | ⟨_,hl⟩
   ·exact .inr hl
   ·exact .inl hl.ok
theorem JGood.bd{r:Tj}(h:JGood r):JBd r:=by
 rcases h with rfl | ⟨_,hl,hh,_⟩
 ·exact⟨⟨b16_0,b16_0⟩,b16_0,b16_0⟩
 ·refine⟨?_,?_⟩
  ·rcases hl with ⟨_,hl⟩ | ⟨_,hl⟩
   ·rw[hl];exact⟨b16_0,b16_0⟩
   ·exact⟨b16_64 hl.2.1,b16_64 hl.2.2⟩
  ·rcases hh with ⟨_,hl⟩ | ⟨_,hl⟩
   ·rw[hl];exact⟨b16_0,b16_0⟩
   ·exact⟨b16_64 hl.2.1,b16_64 hl.2.2⟩
theorem RFit.nrep{u:Tq}(h:RFit u){w:World}{v:Value}(hv:FNorm w v u):NRep w v u:=FRep.arep hv (few_arep h.2.2).1 (few_arep h.2.2).2
theorem RFit.canonical{u:Tq}(h:RFit u)(v:Value)(w:World)(hv:FNorm w v u):
  Calls Tryz.prog 70 #[v] w fun e w'=>e=.returned (.bool true)∧Bw w w':=
 Canonical_any v _ _ _ w hv (few_100 h.2.2.1) (few_100 h.2.2.2) h.2.1 (few_make h.2.2.1 h.2.2.2)
theorem RFit.same{u:Tq}(h:RFit u)(v v':Value)(w:World)(hv:FNorm w v u)(hv':FNorm w v' u):
  Calls Tryz.prog 71 #[v,v'] w fun e w'=>e=.returned (.bool true)∧Bw w w':=by
 have h1:=h.nrep hv;have h2:=h.nrep hv';obtain⟨vn,vd,rfl,⟨p1,k1,c1,rfl,_⟩,⟨q1,l1,d1,rfl,_⟩⟩:=hv;obtain⟨un,ud,rfl,⟨p2,k2,c2,rfl,_⟩,⟨q2,l2,d2,rfl,_⟩⟩:=hv';exact rSame_eq _ p1 k1 c1 q1 l1 d1 _ p2 k2 c2 q2 l2 d2 u w h1 h2 h.1
theorem JGood.reads{r:Tj}(h:JGood r)(s1 p1 k1 c1 q1 l1 d1 sz1 pz1 kz1 cz1 qz1 lz1 dz1 x1 y1)(w:World)(hG:GRep w (.agg #[.bool s1,.slice p1 k1 c1,.slice q1 l1 d1,.bool sz1,.slice pz1 kz1 cz1,.slice qz1 lz1 dz1,.bool x1,.bool y1]) (japi r)):
  Calls Tryz.prog 57 #[.agg #[.bool s1,.slice p1 k1 c1,.slice q1 l1 d1,.bool sz1,.slice pz1 kz1 cz1,.slice qz1 lz1 dz1,.bool x1,.bool y1]] w fun e w'=>∃s3 p3 k3 c3 q3 l3 d3 sz3 pz3 kz3 cz3 qz3 lz3 dz3 x3 y3 e3,e=.returned (.agg #[.bool s3,.slice p3 k3 c3,.slice q3 l3 d3,.bool sz3,.slice pz3 kz3 cz3,.slice qz3 lz3 dz3,.bool x3,.bool y3,.bool e3])∧Hid (JRep w' (.agg #[.bool s3,.slice p3 k3 c3,.slice q3 l3 d3,.bool sz3,.slice pz3 kz3 cz3,.slice qz3 lz3 dz3,.bool x3,.bool y3,.bool e3]) r)∧Bw w w':=by
 obtain⟨h1,h2,hx,hy⟩:=GRep.parts s1 p1 k1 c1 q1 l1 d1 sz1 pz1 kz1 cz1 qz1 lz1 dz1 x1 y1 hG;have ho:=jOf_any s1 p1 k1 c1 q1 l1 d1 sz1 pz1 kz1 cz1 qz1 lz1 dz1 x1 y1 (japi r).1 (japi r).2.1 w (h.ends.1.nrep h1) (h.ends.2.nrep h2) h.ends.1.1 h.ends.2.1;rw[hx,hy,show((japi r).1,(japi r).2.1,(japi r).2.2.1,(japi r).2.2.2)=japi r from rfl,h.back] at ho;rw[hx,hy];refine ho.mono ?_;rintro e w' ⟨s2,p2,k2,c2,q2,l2,d2,sz2,pz2,kz2,cz2,qz2,lz2,dz2,x2,y2,e2,rfl,hJ,hB⟩;exact⟨s2,p2,k2,c2,q2,l2,d2,sz2,pz2,kz2,cz2,qz2,lz2,dz2,x2,y2,e2,rfl,hJ,hB⟩
theorem is3_ok(s1 p1 k1 c1 q1 l1 d1 sz1 pz1 kz1 cz1 qz1 lz1 dz1 x1 y1 s2 p2 k2 c2 q2 l2 d2 sz2 pz2 kz2 cz2 qz2 lz2 dz2 x2 y2)(r:Tj)(w:World)(h:JGood r)(hG:GRep w (.agg #[.bool s1,.slice p1 k1 c1,.slice q1 l1 d1,.bool sz1,.slice pz1 kz1 cz1,.slice qz1 lz1 dz1,.bool x1,.bool y1]) (japi r))(hG':GRep w (.agg #[.bool s2,.slice p2 k2 c2,.slice q2 l2 d2,.bool sz2,.slice pz2 kz2 cz2,.slice qz2 lz2 dz2,.bool x2,.bool y2]) (japi r)):
  Calls Tryz.prog 11 #[.agg #[.bool s1,.slice p1 k1 c1,.slice q1 l1 d1,.bool sz1,.slice pz1 kz1 cz1,.slice qz1 lz1 dz1,.bool x1,.bool y1],.int .i64 0,.agg #[.bool s2,.slice p2 k2 c2,.slice q2 l2 d2,.bool sz2,.slice pz2 kz2 cz2,.slice qz2 lz2 dz2,.bool x2,.bool y2],.int .i64 0] w fun e w'=>e=.returned (.bool true)∧Bw w w':=by
 refine is3_eq s1 p1 k1 c1 q1 l1 d1 sz1 pz1 kz1 cz1 qz1 lz1 dz1 x1 y1 s2 p2 k2 c2 q2 l2 d2 sz2 pz2 kz2 cz2 qz2 lz2 dz2 x2 y2 w (fun W hW=>?_) (fun W hW=>?_)
 ·obtain⟨h1,h2,hx,hy⟩:=GRep.parts s1 p1 k1 c1 q1 l1 d1 sz1 pz1 kz1 cz1 qz1 lz1 dz1 x1 y1 (hG.below hW)
  exact jCanonical_eq s1 p1 k1 c1 q1 l1 d1 sz1 pz1 kz1 cz1 qz1 lz1 dz1 x1 y1 (japi r) r W hx hy h1 h2 rfl h.bd (fun W2 hW2=>h.ends.1.canonical _ W2 (h1.below hW2)) (fun W2 hW2=>h.ends.2.canonical _ W2 (h2.below hW2))
   (fun W2 hW2=>h.reads s1 p1 k1 c1 q1 l1 d1 sz1 pz1 kz1 cz1 qz1 lz1 dz1 x1 y1 W2 ((hG.below hW).below hW2)) (fun W2 v v' hv hv'=>h.ends.1.same v v' W2 hv hv') (fun W2 v v' hv hv'=>h.ends.2.same v v' W2 hv hv')
 ·exact jSame_eq s1 p1 k1 c1 q1 l1 d1 sz1 pz1 kz1 cz1 qz1 lz1 dz1 x1 y1 s2 p2 k2 c2 q2 l2 d2 sz2 pz2 kz2 cz2 qz2 lz2 dz2 x2 y2 r W h.cmp (fun W2 hW2=>h.reads s1 p1 k1 c1 q1 l1 d1 sz1 pz1 kz1 cz1 qz1 lz1 dz1 x1 y1 W2 ((hG.below hW).below hW2)) (fun W2 hW2=>h.reads s2 p2 k2 c2 q2 l2 d2 sz2 pz2 kz2 cz2 qz2 lz2 dz2 x2 y2 W2 ((hG'.below hW).below hW2))
theorem is3_any(s1 p1 k1 c1 q1 l1 d1 sz1 pz1 kz1 cz1 qz1 lz1 dz1 x1 y1 s2 p2 k2 c2 q2 l2 d2 sz2 pz2 kz2 cz2 qz2 lz2 dz2 x2 y2 c)(D:Ti)(w:World)(h0:c=0→∃r,JGood r∧D=japi r)(h1:c≠0→D=gzero)(hG:GRep w (.agg #[.bool s1,.slice p1 k1 c1,.slice q1 l1 d1,.bool sz1,.slice pz1 kz1 cz1,.slice qz1 lz1 dz1,.bool x1,.bool y1]) D)(hG':GRep w (.agg #[.bool s2,.slice p2 k2 c2,.slice q2 l2 d2,.bool sz2,.slice pz2 kz2 cz2,.slice qz2 lz2 dz2,.bool x2,.bool y2]) D):
  Calls Tryz.prog 11 #[.agg #[.bool s1,.slice p1 k1 c1,.slice q1 l1 d1,.bool sz1,.slice pz1 kz1 cz1,.slice qz1 lz1 dz1,.bool x1,.bool y1],.int .i64 c,.agg #[.bool s2,.slice p2 k2 c2,.slice q2 l2 d2,.bool sz2,.slice pz2 kz2 cz2,.slice qz2 lz2 dz2,.bool x2,.bool y2],.int .i64 c] w fun e w'=>e=.returned (.bool true)∧Bw w w':=by
 by_cases hc:c=0
 ·obtain⟨r,hr,hD⟩:=h0 hc;rw[hD] at hG hG';rw[hc];exact is3_ok s1 p1 k1 c1 q1 l1 d1 sz1 pz1 kz1 cz1 qz1 lz1 dz1 x1 y1 s2 p2 k2 c2 q2 l2 d2 sz2 pz2 kz2 cz2 qz2 lz2 dz2 x2 y2 r w hr hG hG'
 ·rw[h1 hc] at hG;exact is3_err s1 p1 k1 c1 q1 l1 d1 sz1 pz1 kz1 cz1 qz1 lz1 dz1 x1 y1 s2 p2 k2 c2 q2 l2 d2 sz2 pz2 kz2 cz2 qz2 lz2 dz2 x2 y2 c w hc hG
theorem giv_srd{a b:Tq}{x y:Bool}(h1:large a.2.1 a.2.2=false)(h2:large b.2.1 b.2.2=false):giv (srd (a,b,x,y))=japi (jof (a,b,x,y)):=by
 have ea:Go.Proofs.YteblinkehldghaaGreatDoor.jrat (Go.Proofs.YteblinkehldghaaGreatDoor.fr a)=outF (Go.Proofs.YteblinkehldghaaGreatDoor.fr a):=(QFit.of h1).jrat;have eb:Go.Proofs.YteblinkehldghaaGreatDoor.jrat (Go.Proofs.YteblinkehldghaaGreatDoor.fr b)=outF (Go.Proofs.YteblinkehldghaaGreatDoor.fr b):=(QFit.of h2).jrat
 cases x<;>cases y
 ·show giv (sfrom (0,Go.Proofs.YteblinkehldghaaGreatDoor.fr a) (0,Go.Proofs.YteblinkehldghaaGreatDoor.fr b))=japi (if decide (0 < fcmp (Go.Proofs.YteblinkehldghaaGreatDoor.fr a) (Go.Proofs.YteblinkehldghaaGreatDoor.fr b)) then jnone else (Go.Proofs.YteblinkehldghaaGreatDoor.fr a,Go.Proofs.YteblinkehldghaaGreatDoor.fr b,false,false,false))
  have e:ecmp (0,Go.Proofs.YteblinkehldghaaGreatDoor.fr a) (0,Go.Proofs.YteblinkehldghaaGreatDoor.fr b)=fcmp (Go.Proofs.YteblinkehldghaaGreatDoor.fr a) (Go.Proofs.YteblinkehldghaaGreatDoor.fr b):=by unfold ecmp;simp
  unfold sfrom;rw[e]
  by_cases hc:0 < fcmp (Go.Proofs.YteblinkehldghaaGreatDoor.fr a) (Go.Proofs.YteblinkehldghaaGreatDoor.fr b)
  ·rw[decide_eq_true hc];rfl
  ·rw[decide_eq_false hc];show(outF (Go.Proofs.YteblinkehldghaaGreatDoor.fr a),outF (Go.Proofs.YteblinkehldghaaGreatDoor.fr b),false,false)=(Go.Proofs.YteblinkehldghaaGreatDoor.jrat (Go.Proofs.YteblinkehldghaaGreatDoor.fr a),Go.Proofs.YteblinkehldghaaGreatDoor.jrat (Go.Proofs.YteblinkehldghaaGreatDoor.fr b),false,false);rw[ea,eb]
 ·show(outF (Go.Proofs.YteblinkehldghaaGreatDoor.fr a),(false,0,0),false,true)=(Go.Proofs.YteblinkehldghaaGreatDoor.jrat (Go.Proofs.YteblinkehldghaaGreatDoor.fr a),Go.Proofs.YteblinkehldghaaGreatDoor.jrat (false,0,0),false,true);rw[ea,jrat_zero]
 ·show((false,0,0),outF (Go.Proofs.YteblinkehldghaaGreatDoor.fr b),true,false)=(Go.Proofs.YteblinkehldghaaGreatDoor.jrat (false,0,0),Go.Proofs.YteblinkehldghaaGreatDoor.jrat (Go.Proofs.YteblinkehldghaaGreatDoor.fr b),true,false);rw[eb,jrat_zero]
 ·show((false,0,0),(false,0,0),true,true)=(Go.Proofs.YteblinkehldghaaGreatDoor.jrat (false,0,0),Go.Proofs.YteblinkehldghaaGreatDoor.jrat (false,0,0),true,true);rw[jrat_zero]
theorem jof_in{a b:Tq}{x y:Bool}(he:(srd (a,b,x,y)).2.2=false):jof (a,b,x,y)=(if x then (false,0,0) else fr a,if y then (false,0,0) else fr b,x,y,false):=by
 unfold jof
 cases x<;>cases y
 ·have e:(srd (a,b,false,false)).2.2=decide (0 < fcmp (fr a) (fr b)):=by
   show decide (0 < ecmp (0,fr a) (0,fr b))=_;rw[show ecmp (0,fr a) (0,fr b)=fcmp (fr a) (fr b) by unfold ecmp;simp]
  rw[e] at he;show(if decide (0 < fcmp (fr a) (fr b)) then jnone else _)=_;rw[he];rfl
 all_goals rfl
theorem jof_out{a b:Tq}{x y:Bool}(he:(srd (a,b,x,y)).2.2=true):jof (a,b,x,y)=jnone:=by
 cases x<;>cases y
 ·have e:(srd (a,b,false,false)).2.2=decide (0 < fcmp (fr a) (fr b)):=by
   show decide (0 < ecmp (0,fr a) (0,fr b))=_;rw[show ecmp (0,fr a) (0,fr b)=fcmp (fr a) (fr b) by unfold ecmp;simp]
  rw[e] at he;show(if decide (0 < fcmp (fr a) (fr b)) then jnone else _)=_;rw[he];rfl
 ·exact absurd he (by unfold srd sfrom ecmp rdE cmpI;simp)
 ·exact absurd he (by unfold srd sfrom ecmp rdE cmpI;simp)
 ·exact absurd he (by unfold srd sfrom ecmp rdE cmpI;simp)
set_option maxHeartbeats 2000000
def eneg (x:Int×Tq):Int×Tq:=if x.1=0 then (0,fneg x.2) else (-x.1,false,0,0)
def sneg (x:Ts):Ts:=(eneg x.2.1,eneg x.1,false)
theorem eneg_ret{W:World}{B:Nat}{a0 a1 a2 a3:Value}{tm:Array Value}{R:Ending→World→Prop}(h2:tm[2]?.getD undef=.pointer (some ⟨B,0,none⟩))(hV:Box W B #[a0,a1,a2,a3])(hR:R (.returned (.agg #[a0,a1,a2,a3])) W):
  bodyPost Tryz.prog Tryz.f76 R .ret {tmps:=tm,defers:=[]} W:=by
 obtain⟨g0,g1,g2,g3,_⟩:=hV.cells4;exact bodyPost_ret (v:=.agg #[a0,a1,a2,a3]) (by simp [results,Tryz.results76,go_sem,h2,g0,g1,g2,g3]) rfl hR
theorem eneg_infp(s1 p1 k1 c1 q1 l1 d1)(w:World):
  Calls Tryz.prog 76 #[.agg #[.int .i64 (1),.bool s1,.slice p1 k1 c1,.slice q1 l1 d1]] w fun e w'=>e=.returned (.agg #[.int .i64 (-1),.bool false,.slice none 0 0,.slice none 0 0])∧Bw w w':=by
 go_enter Tryz.func76,Tryz.ntmps76;go_wp2_with fail;generalize hA:World.alloc _ _=W0;have HV:=hid (pre2_o hA nd4 nd4);clear hA;refine(infinite_any (1) s1 p1 k1 c1 q1 l1 d1 W0).mono ?_;rintro e w1 ⟨rfl,hB1⟩;rw[show((1:Int) != 0)=true from rfl];have HE:=hid (Ai (HV.out.2.1.below hB1) (HV.out.2.2.trans (hB1.mono HV.out.2.2.size)));obtain⟨u0,u1,u2,u3,_⟩:=(HV.out.1.below hB1).cells4;clear hB1;obtain⟨g0,g1,g2,g3,f0,f1,f2,f3⟩:=HE.out.1.cells4;go_wp2_with fail;exact eneg_ret rfl (HE.out.1.stores [.int .i64 (-1),.bool false,.slice none 0 0,.slice none 0 0] rfl nd4) ⟨rfl,Below.stores (k:=0) (l:=[.int .i64 (-1),.bool false,.slice none 0 0,.slice none 0 0]) HE.out.2 (Nat.le_succ _)⟩
theorem eneg_infm(s1 p1 k1 c1 q1 l1 d1)(w:World):
  Calls Tryz.prog 76 #[.agg #[.int .i64 (-1),.bool s1,.slice p1 k1 c1,.slice q1 l1 d1]] w fun e w'=>e=.returned (.agg #[.int .i64 (1),.bool false,.slice none 0 0,.slice none 0 0])∧Bw w w':=by
 go_enter Tryz.func76,Tryz.ntmps76;go_wp2_with fail;generalize hA:World.alloc _ _=W0;have HV:=hid (pre2_o hA nd4 nd4);clear hA;refine(infinite_any (-1) s1 p1 k1 c1 q1 l1 d1 W0).mono ?_;rintro e w1 ⟨rfl,hB1⟩;rw[show((-1:Int) != 0)=true from rfl];have HE:=hid (Ai (HV.out.2.1.below hB1) (HV.out.2.2.trans (hB1.mono HV.out.2.2.size)));obtain⟨u0,u1,u2,u3,_⟩:=(HV.out.1.below hB1).cells4;clear hB1;obtain⟨g0,g1,g2,g3,f0,f1,f2,f3⟩:=HE.out.1.cells4;go_wp2_with fail;exact eneg_ret rfl (HE.out.1.stores [.int .i64 (1),.bool false,.slice none 0 0,.slice none 0 0] rfl nd4) ⟨rfl,Below.stores (k:=0) (l:=[.int .i64 (1),.bool false,.slice none 0 0,.slice none 0 0]) HE.out.2 (Nat.le_succ _)⟩
theorem eneg_fin(s1 p1 k1 c1 q1 l1 d1)(t:Tq)(w:World)(h:FNorm w (.agg #[.bool s1,.slice p1 k1 c1,.slice q1 l1 d1]) t):
  Calls Tryz.prog 76 #[.agg #[.int .i64 0,.bool s1,.slice p1 k1 c1,.slice q1 l1 d1]] w fun e w'=>∃s2 p2 k2 c2 q2 l2 d2,e=.returned (.agg #[.int .i64 0,.bool s2,.slice p2 k2 c2,.slice q2 l2 d2])∧Hid (FNorm w' (.agg #[.bool s2,.slice p2 k2 c2,.slice q2 l2 d2]) (fneg t))∧Bw w w':=by
 have HO:=hid (fun (W:World) (hW:Bw w W)=>fopen (t:=fneg t) (Neg_any (.agg #[.bool s1,.slice p1 k1 c1,.slice q1 l1 d1]) t.1 t.2.1 t.2.2 W (FNorm.below h hW)));clear h;obtain⟨r,hr⟩:∃r,r=fneg t:=⟨_,rfl⟩;rw[←hr] at HO ⊢;clear hr;go_enter Tryz.func76,Tryz.ntmps76;go_wp2_with fail;generalize hA:World.alloc _ _=W0;have HV:=hid (pre2_o hA nd4 nd4);clear hA;refine(infinite_any 0 s1 p1 k1 c1 q1 l1 d1 W0).mono ?_;rintro e w1 ⟨rfl,hB1⟩;rw[show((0:Int) != 0)=false from rfl];have HE:=hid (Ai (HV.out.2.1.below hB1) (HV.out.2.2.trans (hB1.mono HV.out.2.2.size)));obtain⟨u0,u1,u2,u3,_⟩:=(HV.out.1.below hB1).cells4;clear hB1;go_wp2_with fail;refine(HO.out _ HE.out.2).mono ?_;rintro e w2 ⟨s2,p2,k2,c2,q2,l2,d2,rfl,hF,hB2⟩;have HE2:=hid (Ai (HE.out.1.below hB2) (HE.out.2.trans (hB2.mono HE.out.2.size)));clear hB2 u0 u1 u2 u3;go_wp2_with fail;refine(finite_any s2 p2 k2 c2 q2 l2 d2 w2).mono ?_;rintro e w3 ⟨rfl,hB3⟩;have HE3:=hid (Ai (HE2.out.1.below hB3) (HE2.out.2.trans (hB3.mono HE2.out.2.size)));have HF3:=hid (hF.out.below hB3);clear hB3 hF;obtain⟨g0,g1,g2,g3,f0,f1,f2,f3⟩:=HE3.out.1.cells4;go_wp2_with fail;exact eneg_ret rfl (HE3.out.1.stores [.int .i64 0,.bool s2,.slice p2 k2 c2,.slice q2 l2 d2] rfl nd4) ⟨s2,p2,k2,c2,q2,l2,d2,rfl,hid (FNorm.stores (k:=0) (l:=[.int .i64 0,.bool s2,.slice p2 k2 c2,.slice q2 l2 d2]) HF3.out HE3.out.1 nd4),Below.stores (k:=0) (l:=[.int .i64 0,.bool s2,.slice p2 k2 c2,.slice q2 l2 d2]) HE3.out.2 (Nat.le_succ _)⟩
theorem eneg_any(i1 s1 p1 k1 c1 q1 l1 d1)(x:Int×Tq)(A:Nat)(w:World)(h:ERep w (.agg #[.int .i64 i1,.bool s1,.slice p1 k1 c1,.slice q1 l1 d1]) x)(hx:EOk A x):
  Calls Tryz.prog 76 #[.agg #[.int .i64 i1,.bool s1,.slice p1 k1 c1,.slice q1 l1 d1]] w fun e w'=>∃i2 s2 p2 k2 c2 q2 l2 d2,e=.returned (.agg #[.int .i64 i2,.bool s2,.slice p2 k2 c2,.slice q2 l2 d2])∧Hid (ERep w' (.agg #[.int .i64 i2,.bool s2,.slice p2 k2 c2,.slice q2 l2 d2]) (eneg x))∧Bw w w':=by
 obtain⟨hi,hF⟩:=h.frac
 by_cases h0:x.1=0
 ·rw[h0] at hi;subst hi;refine(eneg_fin s1 p1 k1 c1 q1 l1 d1 x.2 w hF).mono ?_;rintro e w' ⟨s2,p2,k2,c2,q2,l2,d2,rfl,hF2,hB⟩;refine⟨0,s2,p2,k2,c2,q2,l2,d2,rfl,hid ?_,hB⟩;unfold eneg;rw[if_pos h0];exact ERep.mk rfl hF2.out
 ·unfold eneg;rw[if_neg h0]
  rcases(hx.inf h0).1 with h1 | h1
  ·rw[h1] at hi ⊢;subst hi;refine(eneg_infp s1 p1 k1 c1 q1 l1 d1 w).mono ?_;rintro e w' ⟨rfl,hB⟩;exact⟨-1,false,none,0,0,none,0,0,rfl,hid (ERep.mk rfl (FNorm.zero w')),hB⟩
  ·rw[h1] at hi ⊢;subst hi;refine(eneg_infm s1 p1 k1 c1 q1 l1 d1 w).mono ?_;rintro e w' ⟨rfl,hB⟩;exact⟨1,false,none,0,0,none,0,0,rfl,hid (ERep.mk rfl (FNorm.zero w')),hB⟩
theorem sneg_ret{W:World}{B:Nat}{a0 a1 a2 a3 a4 a5 a6 a7 a8:Value}{tm:Array Value}{R:Ending→World→Prop}(h2:tm[2]?.getD undef=.pointer (some ⟨B,0,none⟩))(hV:Box W B #[a0,a1,a2,a3,a4,a5,a6,a7,a8])(hR:R (.returned (.agg #[a0,a1,a2,a3,a4,a5,a6,a7,a8])) W):
  bodyPost Tryz.prog Tryz.f37 R .ret {tmps:=tm,defers:=[]} W:=by
 obtain⟨g0,g1,g2,g3,g4,g5,g6,g7,g8,_⟩:=hV.cells9;exact bodyPost_ret (v:=.agg #[a0,a1,a2,a3,a4,a5,a6,a7,a8]) (by simp [results,Tryz.results37,go_sem,h2,g0,g1,g2,g3,g4,g5,g6,g7,g8]) rfl hR
theorem sneg_any(i1 s1 p1 k1 c1 q1 l1 d1 j1 sz1 pz1 kz1 cz1 qz1 lz1 dz1 e1)(x:Ts)(A:Nat)(w:World)(h:SRep w (.agg #[.int .i64 i1,.bool s1,.slice p1 k1 c1,.slice q1 l1 d1,.int .i64 j1,.bool sz1,.slice pz1 kz1 cz1,.slice qz1 lz1 dz1,.bool e1]) x)(hx:EOk A x.1∧EOk A x.2.1):
  Calls Tryz.prog 37 #[.agg #[.int .i64 i1,.bool s1,.slice p1 k1 c1,.slice q1 l1 d1,.int .i64 j1,.bool sz1,.slice pz1 kz1 cz1,.slice qz1 lz1 dz1,.bool e1]] w fun e w'=>∃i3 s3 p3 k3 c3 q3 l3 d3 j3 sz3 pz3 kz3 cz3 qz3 lz3 dz3 e3,e=.returned (.agg #[.int .i64 i3,.bool s3,.slice p3 k3 c3,.slice q3 l3 d3,.int .i64 j3,.bool sz3,.slice pz3 kz3 cz3,.slice qz3 lz3 dz3,.bool e3])∧Hid (SRep w' (.agg #[.int .i64 i3,.bool s3,.slice p3 k3 c3,.slice q3 l3 d3,.int .i64 j3,.bool sz3,.slice pz3 kz3 cz3,.slice qz3 lz3 dz3,.bool e3]) (sneg x))∧Bw w w':=by
 have h1:=h.ends;have HL:=hid (fun (W:World) (hW:Bw w W)=>eneg_any i1 s1 p1 k1 c1 q1 l1 d1 x.1 A W (h1.1.below hW) hx.1);have HH:=hid (fun (W:World) (hW:Bw w W)=>eneg_any j1 sz1 pz1 kz1 cz1 qz1 lz1 dz1 x.2.1 A W (h1.2.1.below hW) hx.2);obtain⟨r,hr⟩:∃r,r=sneg x:=⟨_,rfl⟩;obtain⟨rl,hrl⟩:∃r,r=eneg x.1:=⟨_,rfl⟩;obtain⟨rh,hrh⟩:∃r,r=eneg x.2.1:=⟨_,rfl⟩;rw[←hr];rw[←hrl] at HL;rw[←hrh] at HH;have HX:Hid (r=(rh,rl,false)):=hid (by rw[hr,hrl,hrh];rfl);clear hr hrl hrh h hx h1;go_enter Tryz.func37,Tryz.ntmps37;go_upto_region 1 with fail;generalize hA:World.alloc _ _=W0;have HV:=hid (pre2_o hA nd9 nd9);clear hA;have HQ:=hid (QQ.i1 (cs:=[.int .i64 i1,.bool s1,.slice p1 k1 c1,.slice q1 l1 d1,.int .i64 j1,.bool sz1,.slice pz1 kz1 cz1,.slice qz1 lz1 dz1,.bool e1]) HV.out.1 HV.out.2.2);have HS:=hid (fun (w':World) (hb:QQ w [(w.heap.size,[.int .i64 i1,.bool s1,.slice p1 k1 c1,.slice q1 l1 d1,.int .i64 j1,.bool sz1,.slice pz1 kz1 cz1,.slice qz1 lz1 dz1,.bool e1])] w')=>hb.s_9);have HN:Hid (Apart [(w.heap.size,[.int .i64 i1,.bool s1,.slice p1 k1 c1,.slice q1 l1 d1,.int .i64 j1,.bool sz1,.slice pz1 kz1 cz1,.slice qz1 lz1 dz1,.bool e1])] (w.heap.size+1)):=hid (ne1 (by omega));have HI:Hid (w.heap.size≤w.heap.size+1):=hid (by omega)
 go_region_held3 (fun w'=>w'.cell? ⟨w.heap.size,0,none⟩=some (.int .i64 i1)∧w'.cell? ⟨w.heap.size,1,none⟩=some (.bool s1)∧w'.cell? ⟨w.heap.size,2,none⟩=some (.slice p1 k1 c1)∧w'.cell? ⟨w.heap.size,3,none⟩=some (.slice q1 l1 d1)∧w'.cell? ⟨w.heap.size,4,none⟩=some (.int .i64 j1)∧w'.cell? ⟨w.heap.size,5,none⟩=some (.bool sz1)∧w'.cell? ⟨w.heap.size,6,none⟩=some (.slice pz1 kz1 cz1)∧w'.cell? ⟨w.heap.size,7,none⟩=some (.slice qz1 lz1 dz1)∧w'.cell? ⟨w.heap.size,8,none⟩=some (.bool e1)∧Hid (QQ w [(w.heap.size,[.int .i64 i1,.bool s1,.slice p1 k1 c1,.slice q1 l1 d1,.int .i64 j1,.bool sz1,.slice pz1 kz1 cz1,.slice qz1 lz1 dz1,.bool e1])] w'))
  (first | (refine HS.out _ ?_;first | (with_reducible exact HQ.out.drew) | (with_reducible assumption) | (with_reducible refine QQ.st9 ?_ HN.out HI.out;assumption)))
  (first
   | (go_at_call_of 76 pz1;refine(HH.out _ HQ.out.drew.bel).mono ?_;rintro e wa ⟨i4,s4,p4,k4,c4,q4,l4,d4,rfl,hE1,hB1⟩;have hQ1:=HQ.out.drew.call hB1;have hV1:=(HV.out.2.1.drew).below hB1)
   | (go_at_call_of 76 p1;refine(HL.out _ hQ1.bel).mono ?_;rintro e wb ⟨i5,s5,p5,k5,c5,q5,l5,d5,rfl,hE2,hB2⟩;have hQ2:=hQ1.call hB2;have hV2:=hV1.below hB2;obtain⟨g0,g1,g2,g3,g4,g5,g6,g7,g8,f0,f1,f2,f3,f4,f5,f6,f7,f8⟩:=hV2.cells9))
 rename_i hHeld
 clear hHeld;have HE:=hid (Ai hV2 (Ai (hE1.out.below hB2) (Ai hE2.out hQ2.bel)));clear hQ1 hQ2 hV1 hV2 hB1 hB2 hE1 hE2;go_wp2_with fail;exact sneg_ret rfl (HE.out.1.stores [.int .i64 i4,.bool s4,.slice p4 k4 c4,.slice q4 l4 d4,.int .i64 i5,.bool s5,.slice p5 k5 c5,.slice q5 l5 d5,.bool false] rfl nd9) ⟨_,_,_,_,_,_,_,_,_,_,_,_,_,_,_,_,_,rfl,hid ⟨_,_,_,_,_,_,_,_,_,_,_,_,_,_,_,_,_,rfl,by rw[HX.out];exact ERep.stores (k:=0) (l:=[.int .i64 i4,.bool s4,.slice p4 k4 c4,.slice q4 l4 d4,.int .i64 i5,.bool s5,.slice p5 k5 c5,.slice q5 l5 d5,.bool false]) HE.out.2.1 HE.out.1 nd9,by rw[HX.out];exact ERep.stores (k:=0) (l:=[.int .i64 i4,.bool s4,.slice p4 k4 c4,.slice q4 l4 d4,.int .i64 i5,.bool s5,.slice p5 k5 c5,.slice q5 l5 d5,.bool false]) HE.out.2.2.1 HE.out.1 nd9,by rw[HX.out]⟩,Below.stores (k:=0) (l:=[.int .i64 i4,.bool s4,.slice p4 k4 c4,.slice q4 l4 d4,.int .i64 i5,.bool s5,.slice p5 k5 c5,.slice q5 l5 d5,.bool false]) HE.out.2.2.2 (by omega)⟩
end Go.Proofs.YteblinkehldghaaGreatDoor
