/- Operations on two intervals that round, by their value; Add and Sub of the program. -/
import Derived.Test.YteblinkehldghaaGreatDoorMetIQ
import Derived.Test.YteblinkehldghaaGreatDoorMulS2Q
import Derived.Test.YteblinkehldghaaGreatDoorMulS5Q
import Derived.Test.YteblinkehldghaaGreatDoorAbsIQ
import Derived.Test.YteblinkehldghaaGreatDoorRndJQ
import Derived.Test.YteblinkehldghaaGreatDoorNegI
set_option maxHeartbeats 4000000
set_option maxRecDepth 100000
namespace Go.Proofs.YteblinkehldghaaGreatDoor
open Go.RowKit Dg
open And renaming intro→Ai
theorem faddI_le(a b:Tq):(fadd a b).2.1≤a.2.1*b.2.2+b.2.1*a.2.2∧(fadd a b).2.2≤a.2.2*b.2.2:=by
 by_cases h:a.1=b.1
 ·have e:fadd a b=_:=if_pos h;rw[e];exact⟨Nat.div_le_self _ _,Nat.div_le_self _ _⟩
 ·by_cases h2:a.2.1*b.2.2 < b.2.1*a.2.2
  ·have e:fadd a b=_:=(if_neg h).trans (if_pos h2);rw[e];exact⟨Nat.le_trans (Nat.div_le_self _ _) (Nat.le_trans (Nat.sub_le _ _) (Nat.le_add_left _ _)),Nat.div_le_self _ _⟩
  ·have e:fadd a b=_:=(if_neg h).trans (if_neg h2);rw[e];exact⟨Nat.le_trans (Nat.div_le_self _ _) (Nat.le_trans (Nat.sub_le _ _) (Nat.le_add_right _ _)),Nat.div_le_self _ _⟩
theorem faddI_b{a b:Tq}(h1:a.2.1 < W32 ^ 64)(h2:a.2.2 < W32 ^ 64)(h3:b.2.1 < W32 ^ 64)(h4:b.2.2 < W32 ^ 64):(fadd a b).2.1 < W32 ^ 130∧(fadd a b).2.2 < W32 ^ 130:=
 ⟨Nat.lt_of_le_of_lt (faddI_le a b).1 (lt_add (lt_mul (c:=128) h1 h4 (by omega)) (lt_mul (c:=128) h3 h2 (by omega)) (by omega)),Nat.lt_of_le_of_lt (faddI_le a b).2 (lt_mul h2 h4 (by omega))⟩
theorem EOk.plus{x y:Int×Tq}(hx:EOk 64 x)(hy:EOk 64 y):EOk 1000 (eplus x y):=by
 unfold eplus
 split
 ·exact hx.le (by omega)
 ·split
  ·exact hy.le (by omega)
  case isFalse h1 h2=>
   have h1':x.1=0:=Decidable.not_not.1 h1;have h2':y.1=0:=Decidable.not_not.1 h2;have hb:=faddI_b hx.bn hx.bd hy.bn hy.bd;have h3:EOk 130 (0,fadd x.2 y.2):=⟨fun _=>IsFr.add (hx.fin h1').pos (hy.fin h2').pos,fun h=>absurd rfl h,hb.1,hb.2⟩;exact h3.le (by omega)
theorem enter_splus(args:Array Value)(w:World):(callFunc 38 args).run Tryz.prog w=.ok (.enter 38 args) w:=call_enter Tryz.func38 (by kernel_rfl) rfl args w
theorem iAdd_ret{W:World}{B:Nat}{a0 a1 a2 a3 a4 a5 a6 a7 ev:Value}{tm:Array Value}{R:Ending→World→Prop}(h2:tm[6]?.getD undef=.pointer (some ⟨B,0,none⟩))(h3:tm[7]?.getD undef=ev)(hV:Box W B #[a0,a1,a2,a3,a4,a5,a6,a7])(hR:R (.returned (.tuple #[.agg #[a0,a1,a2,a3,a4,a5,a6,a7],ev])) W):
  bodyPost Tryz.prog Tryz.f15 R .ret {tmps:=tm,defers:=[]} W:=by
 obtain⟨g0,g1,g2,g3,g4,g5,g6,g7,_⟩:=hV.cells8;exact bodyPost_ret (v:=.tuple #[.agg #[a0,a1,a2,a3,a4,a5,a6,a7],ev]) (by simp [results,Tryz.results15,go_sem,h2,h3,g0,g1,g2,g3,g4,g5,g6,g7]) rfl hR
def rcode (p:Int) (f:Ts→Ts→Ts):=b2code (prec p) (fun x y=>srnd p (f x y))
def rval (p:Int) (f:Ts→Ts→Ts):=b2val (prec p) (fun x y=>srnd p (f x y))
theorem rounded_gen(s1 p1 k1 c1 q1 l1 d1 sz1 pz1 kz1 cz1 qz1 lz1 dz1 x1 y1 s2 p2 k2 c2 q2 l2 d2 sz2 pz2 kz2 cz2 qz2 lz2 dz2 x2 y2 p)(g:FuncId)(cap:Array Value)(f:Ts→Ts→Ts)(a b a' b':Tq)(w:World)(ha:NRep w (.agg #[.bool s1,.slice p1 k1 c1,.slice q1 l1 d1]) a)(hb:NRep w (.agg #[.bool sz1,.slice pz1 kz1 cz1,.slice qz1 lz1 dz1]) b)(ha':NRep w (.agg #[.bool s2,.slice p2 k2 c2,.slice q2 l2 d2]) a')(hb':NRep w (.agg #[.bool sz2,.slice pz2 kz2 cz2,.slice qz2 lz2 dz2]) b')(ht:TabOk w)
  (hfn:∀args W,(callFunc g args).run Tryz.prog W=.ok (.enter g args) W)
  (hr:large a.2.1 a.2.2=false→large b.2.1 b.2.2=false→large a'.2.1 a'.2.2=false→large b'.2.1 b'.2.2=false→(srd (a,b,x1,y1)).2.2=false→(srd (a',b',x2,y2)).2.2=false→EOk 1000 (f (srd (a,b,x1,y1)) (srd (a',b',x2,y2))).1∧EOk 1000 (f (srd (a,b,x1,y1)) (srd (a',b',x2,y2))).2.1)
  (hop:large a.2.1 a.2.2=false→large b.2.1 b.2.2=false→large a'.2.1 a'.2.2=false→large b'.2.1 b'.2.2=false→(srd (a,b,x1,y1)).2.2=false→(srd (a',b',x2,y2)).2.2=false→∀W i1 s1 p1 k1 c1 q1 l1 d1 j1 sz1 pz1 kz1 cz1 qz1 lz1 dz1 e1 i2 s2 p2 k2 c2 q2 l2 d2 j2 sz2 pz2 kz2 cz2 qz2 lz2 dz2 e2,Bw w W→SRep W (.agg #[.int .i64 i1,.bool s1,.slice p1 k1 c1,.slice q1 l1 d1,.int .i64 j1,.bool sz1,.slice pz1 kz1 cz1,.slice qz1 lz1 dz1,.bool e1]) (srd (a,b,x1,y1))→SRep W (.agg #[.int .i64 i2,.bool s2,.slice p2 k2 c2,.slice q2 l2 d2,.int .i64 j2,.bool sz2,.slice pz2 kz2 cz2,.slice qz2 lz2 dz2,.bool e2]) (srd (a',b',x2,y2))→Calls Tryz.prog g (#[.agg #[.int .i64 i1,.bool s1,.slice p1 k1 c1,.slice q1 l1 d1,.int .i64 j1,.bool sz1,.slice pz1 kz1 cz1,.slice qz1 lz1 dz1,.bool e1],.agg #[.int .i64 i2,.bool s2,.slice p2 k2 c2,.slice q2 l2 d2,.int .i64 j2,.bool sz2,.slice pz2 kz2 cz2,.slice qz2 lz2 dz2,.bool e2]] ++ cap) W fun e w'=>∃i3 s3 p3 k3 c3 q3 l3 d3 j3 sz3 pz3 kz3 cz3 qz3 lz3 dz3 e3,e=.returned (.agg #[.int .i64 i3,.bool s3,.slice p3 k3 c3,.slice q3 l3 d3,.int .i64 j3,.bool sz3,.slice pz3 kz3 cz3,.slice qz3 lz3 dz3,.bool e3])∧Hid (SRep w' (.agg #[.int .i64 i3,.bool s3,.slice p3 k3 c3,.slice q3 l3 d3,.int .i64 j3,.bool sz3,.slice pz3 kz3 cz3,.slice qz3 lz3 dz3,.bool e3]) (f (srd (a,b,x1,y1)) (srd (a',b',x2,y2))))∧Bw W w'):
  Calls Tryz.prog 21 #[.agg #[.bool s1,.slice p1 k1 c1,.slice q1 l1 d1,.bool sz1,.slice pz1 kz1 cz1,.slice qz1 lz1 dz1,.bool x1,.bool y1],.agg #[.bool s2,.slice p2 k2 c2,.slice q2 l2 d2,.bool sz2,.slice pz2 kz2 cz2,.slice qz2 lz2 dz2,.bool x2,.bool y2],.int .i64 p,.func (.func g) #[] cap] w fun e w'=>∃s5 p5 k5 c5 q5 l5 d5 sz5 pz5 kz5 cz5 qz5 lz5 dz5 x5 y5,e=.returned (.tuple #[.agg #[.bool s5,.slice p5 k5 c5,.slice q5 l5 d5,.bool sz5,.slice pz5 kz5 cz5,.slice qz5 lz5 dz5,.bool x5,.bool y5],.int .i64 (rcode p f (a,b,x1,y1) (a',b',x2,y2))])∧Hid (GRep w' (.agg #[.bool s5,.slice p5 k5 c5,.slice q5 l5 d5,.bool sz5,.slice pz5 kz5 cz5,.slice qz5 lz5 dz5,.bool x5,.bool y5]) (rval p f (a,b,x1,y1) (a',b',x2,y2)))∧Bw w w':=by
 unfold rcode rval;have hmf:=makeFunc_run
 have HC:=hid (fun (W:World) (hW:Bw w W) (b3:Box W (w.heap.size+1+1) #[.int .i64 p]) (b4:Box W (w.heap.size+1+1+1) #[.func (.func g) #[] cap])=>
  both_gen s1 p1 k1 c1 q1 l1 d1 sz1 pz1 kz1 cz1 qz1 lz1 dz1 x1 y1 s2 p2 k2 c2 q2 l2 d2 sz2 pz2 kz2 cz2 qz2 lz2 dz2 x2 y2 (prec p) 50 #[.pointer (some ⟨w.heap.size+1+1+1,0,none⟩),.pointer (some ⟨w.heap.size+1+1,0,none⟩)] (fun x y=>srnd p (f x y)) a b a' b' W
   (ha.below hW) (hb.below hW) (ha'.below hW) (hb'.below hW) (ht.below hW) enter_rounded1
   (fun hv h1 h2 h3 h4 h5 h6=>by
    unfold prec at hv;rw[Bool.and_eq_true,decide_eq_true_eq,decide_eq_true_eq] at hv;have hh:=hr h1 h2 h3 h4 h5 h6
    exact⟨⟨hh.1.dn (by omega),hh.2.up (by omega)⟩,rfl⟩)
   (fun hv h1 h2 h3 h4 h5 h6 W' i3 s3 p3 k3 c3 q3 l3 d3 j3 sz3 pz3 kz3 cz3 qz3 lz3 dz3 e3 i4 s4 p4 k4 c4 q4 l4 d4 j4 sz4 pz4 kz4 cz4 qz4 lz4 dz4 e4 hW' hS1 hS2=>by
    unfold prec at hv;rw[Bool.and_eq_true,decide_eq_true_eq,decide_eq_true_eq] at hv;obtain⟨pr,rfl⟩:=Int.eq_ofNat_of_zero_le hv.1
    exact rounded1_ok i3 s3 p3 k3 c3 q3 l3 d3 j3 sz3 pz3 kz3 cz3 qz3 lz3 dz3 e3 i4 s4 p4 k4 c4 q4 l4 d4 j4 sz4 pz4 kz4 cz4 qz4 lz4 dz4 e4 (w.heap.size+1+1+1) (w.heap.size+1+1) g cap pr (srd (a,b,x1,y1)) (srd (a',b',x2,y2)) _ W' (b4.below hW') (b3.below hW') hS1 hS2 (hr h1 h2 h3 h4 h5 h6) (by omega) ((ht.below hW).below hW') hfn
     (fun W2 h7 hS5 hS6=>hop h1 h2 h3 h4 h5 h6 W2 i3 s3 p3 k3 c3 q3 l3 d3 j3 sz3 pz3 kz3 cz3 qz3 lz3 dz3 e3 i4 s4 p4 k4 c4 q4 l4 d4 j4 sz4 pz4 kz4 cz4 qz4 lz4 dz4 e4 (hW.trans ((hW'.trans (h7.mono hW'.size)).mono hW.size)) hS5 hS6)))
 have HPr:=hid (isPrecision_any p);obtain⟨v,hv⟩:∃r,r=prec p:=⟨_,rfl⟩;rw[←hv] at HC HPr ⊢;obtain⟨D,hD⟩:∃D,D=b2val v (fun x y=>srnd p (f x y)) (a,b,x1,y1) (a',b',x2,y2):=⟨_,rfl⟩;obtain⟨c,hc⟩:∃D,D=b2code v (fun x y=>srnd p (f x y)) (a,b,x1,y1) (a',b',x2,y2):=⟨_,rfl⟩;rw[←hD,←hc] at HC ⊢;clear ha hb ha' hb' ht hr hop hfn hD hc hv;obtain⟨pi,hpi⟩:∃pi:Int,pi=p:=⟨_,rfl⟩;rw[←hpi] at HC HPr ⊢;clear hpi;go_enter Tryz.func21,Tryz.ntmps21;go_wp2_with fail;have HV:=hid (pre5 w [.bool s1,.slice p1 k1 c1,.slice q1 l1 d1,.bool sz1,.slice pz1 kz1 cz1,.slice qz1 lz1 dz1,.bool x1,.bool y1] [.bool s2,.slice p2 k2 c2,.slice q2 l2 d2,.bool sz2,.slice pz2 kz2 cz2,.slice qz2 lz2 dz2,.bool x2,.bool y2] [.int .i64 pi] [.func (.func g) #[] cap] [.bool false,.slice none 0 0,.slice none 0 0,.bool false,.slice none 0 0,.slice none 0 0,.bool false,.bool false] 26 26 3 44 26 nd8 nd8 nd1 nd1 nd8);generalize((((w.alloc (.cells #[.bool s1,.slice p1 k1 c1,.slice q1 l1 d1,.bool sz1,.slice pz1 kz1 cz1,.slice qz1 lz1 dz1,.bool x1,.bool y1] 26)).alloc (.cells #[.bool s2,.slice p2 k2 c2,.slice q2 l2 d2,.bool sz2,.slice pz2 kz2 cz2,.slice qz2 lz2 dz2,.bool x2,.bool y2] 26)).alloc (.cells #[.int .i64 pi] 3)).alloc (.cells #[.func (.func g) #[] cap] 44)).alloc (.cells #[.bool false,.slice none 0 0,.slice none 0 0,.bool false,.slice none 0 0,.slice none 0 0,.bool false,.bool false] 26)=W0 at *;have HQ:=hid (QQ.i3 (cs:=[.bool s1,.slice p1 k1 c1,.slice q1 l1 d1,.bool sz1,.slice pz1 kz1 cz1,.slice qz1 lz1 dz1,.bool x1,.bool y1]) (cs':=[.bool s2,.slice p2 k2 c2,.slice q2 l2 d2,.bool sz2,.slice pz2 kz2 cz2,.slice qz2 lz2 dz2,.bool x2,.bool y2]) (c2:=[.int .i64 pi]) HV.out.1 HV.out.2.1 HV.out.2.2.1 HV.out.2.2.2.2.2);have HS:=hid (fun (w':World) (hb:QQ w [(w.heap.size,[.bool s1,.slice p1 k1 c1,.slice q1 l1 d1,.bool sz1,.slice pz1 kz1 cz1,.slice qz1 lz1 dz1,.bool x1,.bool y1]),(w.heap.size+1,[.bool s2,.slice p2 k2 c2,.slice q2 l2 d2,.bool sz2,.slice pz2 kz2 cz2,.slice qz2 lz2 dz2,.bool x2,.bool y2]),(w.heap.size+1+1,[.int .i64 pi])] w')=>hb.s_8_8_1);have HN:Hid (Apart [(w.heap.size,[.bool s1,.slice p1 k1 c1,.slice q1 l1 d1,.bool sz1,.slice pz1 kz1 cz1,.slice qz1 lz1 dz1,.bool x1,.bool y1]),(w.heap.size+1,[.bool s2,.slice p2 k2 c2,.slice q2 l2 d2,.bool sz2,.slice pz2 kz2 cz2,.slice qz2 lz2 dz2,.bool x2,.bool y2]),(w.heap.size+1+1,[.int .i64 pi])] (w.heap.size+1+1+1+1)):=hid (ne3 (by omega) (by omega) (by omega));have HI:Hid (w.heap.size≤w.heap.size+1+1+1+1):=hid (by omega)
 go_region_held3 (fun w'=>w'.cell? ⟨w.heap.size,0,none⟩=some (.bool s1)∧w'.cell? ⟨w.heap.size,1,none⟩=some (.slice p1 k1 c1)∧w'.cell? ⟨w.heap.size,2,none⟩=some (.slice q1 l1 d1)∧w'.cell? ⟨w.heap.size,3,none⟩=some (.bool sz1)∧w'.cell? ⟨w.heap.size,4,none⟩=some (.slice pz1 kz1 cz1)∧w'.cell? ⟨w.heap.size,5,none⟩=some (.slice qz1 lz1 dz1)∧w'.cell? ⟨w.heap.size,6,none⟩=some (.bool x1)∧w'.cell? ⟨w.heap.size,7,none⟩=some (.bool y1)∧w'.cell? ⟨w.heap.size+1,0,none⟩=some (.bool s2)∧w'.cell? ⟨w.heap.size+1,1,none⟩=some (.slice p2 k2 c2)∧w'.cell? ⟨w.heap.size+1,2,none⟩=some (.slice q2 l2 d2)∧w'.cell? ⟨w.heap.size+1,3,none⟩=some (.bool sz2)∧w'.cell? ⟨w.heap.size+1,4,none⟩=some (.slice pz2 kz2 cz2)∧w'.cell? ⟨w.heap.size+1,5,none⟩=some (.slice qz2 lz2 dz2)∧w'.cell? ⟨w.heap.size+1,6,none⟩=some (.bool x2)∧w'.cell? ⟨w.heap.size+1,7,none⟩=some (.bool y2)∧w'.cell? ⟨w.heap.size+1+1,0,none⟩=some (.int .i64 pi)∧Hid (QQ w [(w.heap.size,[.bool s1,.slice p1 k1 c1,.slice q1 l1 d1,.bool sz1,.slice pz1 kz1 cz1,.slice qz1 lz1 dz1,.bool x1,.bool y1]),(w.heap.size+1,[.bool s2,.slice p2 k2 c2,.slice q2 l2 d2,.bool sz2,.slice pz2 kz2 cz2,.slice qz2 lz2 dz2,.bool x2,.bool y2]),(w.heap.size+1+1,[.int .i64 pi])] w'))
  (first | (refine HS.out _ ?_;first | (with_reducible exact HQ.out.drew) | (with_reducible assumption) | (with_reducible refine QQ.st8 ?_ HN.out HI.out;assumption)))
  (first
   | (go_at_call 39;refine(HPr.out _).mono ?_;rintro e wa ⟨rfl,rfl⟩)
   | (go_at_call 49;refine(HC.out _ HQ.out.drew.bel (HV.out.2.2.1.drew) (HV.out.2.2.2.1.drew)).mono ?_;rintro e wb ⟨s5,p5,k5,c5,q5,l5,d5,sz5,pz5,kz5,cz5,qz5,lz5,dz5,x5,y5,rfl,hG,hB2⟩;have hQ2:=HQ.out.drew.call hB2;have hV2:=(HV.out.2.2.2.2.1.drew).below hB2;obtain⟨g0,g1,g2,g3,g4,g5,g6,g7,f0,f1,f2,f3,f4,f5,f6,f7⟩:=hV2.cells8))
 all_goals
  have HE:=hid (Ai hV2 (Ai hG.out hQ2.bel))
  clear hQ2 hV2 hB2 hG
  go_wp2_with fail
  exact rounded_ret rfl rfl (HE.out.1.stores [.bool s5,.slice p5 k5 c5,.slice q5 l5 d5,.bool sz5,.slice pz5 kz5 cz5,.slice qz5 lz5 dz5,.bool x5,.bool y5] rfl nd8) ⟨s5,p5,k5,c5,q5,l5,d5,sz5,pz5,kz5,cz5,qz5,lz5,dz5,x5,y5,rfl,hid (GRep.stores (k:=0) (l:=[.bool s5,.slice p5 k5 c5,.slice q5 l5 d5,.bool sz5,.slice pz5 kz5 cz5,.slice qz5 lz5 dz5,.bool x5,.bool y5]) HE.out.2.1 HE.out.1 nd8),Below.stores (k:=0) (l:=[.bool s5,.slice p5 k5 c5,.slice q5 l5 d5,.bool sz5,.slice pz5 kz5 cz5,.slice qz5 lz5 dz5,.bool x5,.bool y5]) HE.out.2.2 HI.out⟩
theorem iAdd_any(s1 p1 k1 c1 q1 l1 d1 sz1 pz1 kz1 cz1 qz1 lz1 dz1 x1 y1 s2 p2 k2 c2 q2 l2 d2 sz2 pz2 kz2 cz2 qz2 lz2 dz2 x2 y2 p)(a b a' b':Tq)(w:World)(ha:NRep w (.agg #[.bool s1,.slice p1 k1 c1,.slice q1 l1 d1]) a)(hb:NRep w (.agg #[.bool sz1,.slice pz1 kz1 cz1,.slice qz1 lz1 dz1]) b)(ha':NRep w (.agg #[.bool s2,.slice p2 k2 c2,.slice q2 l2 d2]) a')(hb':NRep w (.agg #[.bool sz2,.slice pz2 kz2 cz2,.slice qz2 lz2 dz2]) b')(ht:TabOk w):
  Calls Tryz.prog 15 #[.agg #[.bool s1,.slice p1 k1 c1,.slice q1 l1 d1,.bool sz1,.slice pz1 kz1 cz1,.slice qz1 lz1 dz1,.bool x1,.bool y1],.agg #[.bool s2,.slice p2 k2 c2,.slice q2 l2 d2,.bool sz2,.slice pz2 kz2 cz2,.slice qz2 lz2 dz2,.bool x2,.bool y2],.int .i64 p] w fun e w'=>∃s5 p5 k5 c5 q5 l5 d5 sz5 pz5 kz5 cz5 qz5 lz5 dz5 x5 y5,e=.returned (.tuple #[.agg #[.bool s5,.slice p5 k5 c5,.slice q5 l5 d5,.bool sz5,.slice pz5 kz5 cz5,.slice qz5 lz5 dz5,.bool x5,.bool y5],.int .i64 (rcode p splus (a,b,x1,y1) (a',b',x2,y2))])∧Hid (GRep w' (.agg #[.bool s5,.slice p5 k5 c5,.slice q5 l5 d5,.bool sz5,.slice pz5 kz5 cz5,.slice qz5 lz5 dz5,.bool x5,.bool y5]) (rval p splus (a,b,x1,y1) (a',b',x2,y2)))∧Bw w w':=by
 have HC:=hid (fun (W:World) (hW:Bw w W)=>
  rounded_gen s1 p1 k1 c1 q1 l1 d1 sz1 pz1 kz1 cz1 qz1 lz1 dz1 x1 y1 s2 p2 k2 c2 q2 l2 d2 sz2 pz2 kz2 cz2 qz2 lz2 dz2 x2 y2 p 38 #[] splus a b a' b' W (ha.below hW) (hb.below hW) (ha'.below hW) (hb'.below hW) (ht.below hW) enter_splus
   (fun h1 h2 h3 h4 _ _=>⟨(rdE_ok (.inr rfl) h1).plus (rdE_ok (.inr rfl) h3),(rdE_ok (.inl rfl) h2).plus (rdE_ok (.inl rfl) h4)⟩)
   (fun h1 h2 h3 h4 _ _ W' i3 s3 p3 k3 c3 q3 l3 d3 j3 sz3 pz3 kz3 cz3 qz3 lz3 dz3 e3 i4 s4 p4 k4 c4 q4 l4 d4 j4 sz4 pz4 kz4 cz4 qz4 lz4 dz4 e4 hW' hS1 hS2=>splus_any i3 s3 p3 k3 c3 q3 l3 d3 j3 sz3 pz3 kz3 cz3 qz3 lz3 dz3 e3 i4 s4 p4 k4 c4 q4 l4 d4 j4 sz4 pz4 kz4 cz4 qz4 lz4 dz4 e4 (srd (a,b,x1,y1)) (srd (a',b',x2,y2)) W' hS1 hS2
    ⟨(rdE_ok (.inr rfl) h1).le (by omega),(rdE_ok (.inl rfl) h2).le (by omega)⟩ ⟨(rdE_ok (.inr rfl) h3).le (by omega),(rdE_ok (.inl rfl) h4).le (by omega)⟩ ((ht.below hW).below hW')))
 obtain⟨D,hD⟩:∃D,D=rval p splus (a,b,x1,y1) (a',b',x2,y2):=⟨_,rfl⟩;obtain⟨c,hc⟩:∃D,D=rcode p splus (a,b,x1,y1) (a',b',x2,y2):=⟨_,rfl⟩;rw[←hD,←hc] at HC ⊢;clear ha hb ha' hb' ht hD hc;obtain⟨pi,hpi⟩:∃pi:Int,pi=p:=⟨_,rfl⟩;rw[←hpi] at HC ⊢;clear hpi;go_enter Tryz.func15,Tryz.ntmps15;go_wp2_with fail;generalize hA:World.alloc _ _=W0;have HV:=hid (pre3_o hA nd8 nd8 nd8);clear hA;refine(HC.out _ HV.out.2.2.2).mono ?_;rintro e w1 ⟨s5,p5,k5,c5,q5,l5,d5,sz5,pz5,kz5,cz5,qz5,lz5,dz5,x5,y5,rfl,hG,hB1⟩;have HE:=hid (Ai (HV.out.2.2.1.below hB1) (HV.out.2.2.2.trans (hB1.mono HV.out.2.2.2.size)));clear hB1;obtain⟨g0,g1,g2,g3,g4,g5,g6,g7,f0,f1,f2,f3,f4,f5,f6,f7⟩:=HE.out.1.cells8;go_wp2_with fail;exact iAdd_ret rfl rfl (HE.out.1.stores [.bool s5,.slice p5 k5 c5,.slice q5 l5 d5,.bool sz5,.slice pz5 kz5 cz5,.slice qz5 lz5 dz5,.bool x5,.bool y5] rfl nd8) ⟨s5,p5,k5,c5,q5,l5,d5,sz5,pz5,kz5,cz5,qz5,lz5,dz5,x5,y5,rfl,hid (GRep.stores (k:=0) (l:=[.bool s5,.slice p5 k5 c5,.slice q5 l5 d5,.bool sz5,.slice pz5 kz5 cz5,.slice qz5 lz5 dz5,.bool x5,.bool y5]) hG.out HE.out.1 nd8),Below.stores (k:=0) (l:=[.bool s5,.slice p5 k5 c5,.slice q5 l5 d5,.bool sz5,.slice pz5 kz5 cz5,.slice qz5 lz5 dz5,.bool x5,.bool y5]) HE.out.2 (by omega)⟩
theorem small_low(n:Nat)(h:n < 10):n < W32 ^ 1000000000:=lt_big (a:=1) (by rw[Nat.pow_one];unfold W32;omega) (by omega)
theorem lt_b16{x:Nat}(h:x < 10):x < B16 ^ 1000000000:=lt_16 (a:=1) (by rw[Nat.pow_one];unfold B16;omega) (by omega)
theorem ratInt(v:Value)(n:Nat)(hn:n < 10)(w:World)(h:QNorm w v (false,n,1)):
  Calls Tryz.prog 19 #[v] w fun e w'=>∃s1 p1 k1 c1 q1 l1 d1,e=.returned (.agg #[.bool s1,.slice p1 k1 c1,.slice q1 l1 d1])∧Hid (FNorm w' (.agg #[.bool s1,.slice p1 k1 c1,.slice q1 l1 d1]) (false,n,0))∧Bw w w':=
 fopen (t:=(false,n,0)) ((rRat_any v false n 1 w h (lt_b16 (by omega)) (lt_b16 (by omega))).mono fun _ _ ⟨v',he,hF,hB⟩=>⟨v',he,hF,hB⟩)
theorem intInt(n:Nat)(hn:n < 10)(hn0:n≠0)(w:World):
  Calls Tryz.prog 20 #[.int .i64 (n:Int)] w fun e w'=>∃v',e=.returned v'∧QNorm w' v' (false,n,1)∧Bw w w':=by
 refine(rInt_any (n:Int) w (by omega) (by omega)).mono ?_;rintro e w' ⟨v',he,hF,hB⟩;refine⟨v',he,?_,hB⟩
 have e1:mkq (decide ((n:Int) < 0)) (n:Int).natAbs 1=(false,n,1):=by
  rw[decide_eq_false (by omega),Int.natAbs_natCast,mkq_one hn0]
 rwa [e1] at hF
theorem rep_one{w:World}{p}{k c n:Nat}(h:Rep W32 w (.slice p k c) n)(h0:0 < n)(h1:n < W32):k=1∧k≤c∧∃b off,p=some ⟨b,off,none⟩∧w.cell? ⟨b,off,none⟩=some (.int .u32 (n:Nat)):=by
 obtain⟨p',k',c',hv,hk,hl,hs⟩:=h;obtain⟨rfl,rfl,rfl⟩:=Value.slice.inj hv;have hk1:k=1:=hl.unique W32_one ⟨by rw[Nat.pow_one];exact h1,fun _=>by rw[Nat.sub_self,Nat.pow_zero];omega⟩;subst hk1;obtain⟨b,off,hp,hc⟩:=hs (by omega);refine⟨rfl,hk,b,off,hp,?_⟩;have h2:=hc 0 (by omega)
 have e:dg W32 n 0=n:=by unfold dg;rw[Nat.pow_zero,Nat.div_one,Nat.mod_eq_of_lt h1]
 rwa [e] at h2
theorem rep_zero{w:World}{p k c}(h:Rep W32 w (.slice p k c) 0):k=0:=by
 obtain⟨p',k',c',hv,hk,hl,hs⟩:=h;obtain⟨rfl,rfl,rfl⟩:=Value.slice.inj hv;exact(hl.zero_iff W32_pos).1 rfl
theorem FNorm.parts{w:World}{s}{vn vd:Value}{t:Tq}(h:FNorm w (.agg #[.bool s,vn,vd]) t):s=t.1∧Rep W32 w vn t.2.1∧Rep W32 w vd t.2.2:=by
 obtain⟨vn',vd',hv,h1,h2⟩:=h;have e:=Value.agg.inj hv;simp at e;obtain⟨rfl,rfl,rfl⟩:=e;exact⟨rfl,h1,h2⟩
theorem nrep_small{w:World}{v:Value}{n:Nat}(h:FNorm w v (false,n,0))(hn:n < 10):NRep w v (false,n,0):=FRep.arep h (small_low n hn) (small_low 0 (by omega))
theorem rc46:rcode 0 splus ((false,1,0),(false,2,0),false,false) ((false,3,0),(false,4,0),false,false)=0:=by decide+kernel
theorem rv46:rval 0 splus ((false,1,0),(false,2,0),false,false) ((false,3,0),(false,4,0),false,false)=((false,4,0),(false,6,0),false,false):=by decide+kernel
theorem awake3_any(w:World)(ht:TabOk w):
  Calls Tryz.prog 12 #[] w fun e w'=>e=.returned (.bool true)∧Bw w w':=by
 have HT:=hid ht;have HI:=hid (fun (n:Nat) (h:n < 10) (h0:n≠0) (W:World)=>intInt n h h0 W);clear ht;go_enter Tryz.func12,Tryz.ntmps12;go_wp2_with fail;refine(HI.out 1 (by omega) (by omega) w).mono ?_;rintro e w1 ⟨v1,rfl,hq1,hb1⟩;go_wp2_with fail;refine(ratInt v1 1 (by omega) w1 hq1).mono ?_;rintro e w2 ⟨s1,p1,k1,c1,q1,l1,d1,rfl,hF1,hb2⟩;have HB2:=hid (hb1.trans (hb2.mono hb1.size));clear hb1 hb2 hq1;go_wp2_with fail;refine(HI.out 2 (by omega) (by omega) w2).mono ?_;rintro e w3 ⟨v3,rfl,hq3,hb3⟩;go_wp2_with fail;refine(ratInt v3 2 (by omega) w3 hq3).mono ?_;rintro e w4 ⟨s2,p2,k2,c2,q2,l2,d2,rfl,hF2,hb4⟩;have HB4:=hid (held_any HB2.out (hb3.trans (hb4.mono hb3.size)));have HF1:=hid (hF1.out.below (hb3.trans (hb4.mono hb3.size)));clear hb3 hb4 hq3 hF1;go_wp2_with fail;refine(HI.out 3 (by omega) (by omega) w4).mono ?_;rintro e w5 ⟨v5,rfl,hq5,hb5⟩;go_wp2_with fail;refine(ratInt v5 3 (by omega) w5 hq5).mono ?_;rintro e w6 ⟨s3,p3,k3,c3,q3,l3,d3,rfl,hF3,hb6⟩;have hb56:=hb5.trans (hb6.mono hb5.size);have HB6:=hid (held_any HB4.out hb56);have HG1:=hid (HF1.out.below hb56);have HG2:=hid (hF2.out.below hb56);clear hb5 hb6 hq5 HF1 hF2 hb56;go_wp2_with fail;refine(HI.out 4 (by omega) (by omega) w6).mono ?_;rintro e w7 ⟨v7,rfl,hq7,hb7⟩;go_wp2_with fail;refine(ratInt v7 4 (by omega) w7 hq7).mono ?_;rintro e w8 ⟨s4,p4,k4,c4,q4,l4,d4,rfl,hF4,hb8⟩;have hb78:=hb7.trans (hb8.mono hb7.size);have HB8:=hid (held_any HB6.out hb78);have HH:=hid (Ai (HG1.out.below hb78) (Ai (HG2.out.below hb78) (Ai (hF3.out.below hb78) hF4.out)));clear hb7 hb8 hq7 HG1 HG2 hF3 hF4 hb78
 have HA:=hid (fun (W:World) (hW:Bw w8 W)=>iAdd_any s1 p1 k1 c1 q1 l1 d1 s2 p2 k2 c2 q2 l2 d2 false false s3 p3 k3 c3 q3 l3 d3 s4 p4 k4 c4 q4 l4 d4 false false 0 (false,1,0) (false,2,0) (false,3,0) (false,4,0) W
  (NRep.below (nrep_small HH.out.1 (by omega)) hW) (NRep.below (nrep_small HH.out.2.1 (by omega)) hW) (NRep.below (nrep_small HH.out.2.2.1 (by omega)) hW) (NRep.below (nrep_small HH.out.2.2.2 (by omega)) hW) ((HT.out.below HB8.out).below hW))
 obtain⟨D,hD⟩:∃D,D=rval 0 splus ((false,1,0),(false,2,0),false,false) ((false,3,0),(false,4,0),false,false):=⟨_,rfl⟩;rw[rc46,←hD] at HA;rw[rv46] at hD;have HD:=hid hD;clear hD HI HH;go_upto_region 2 with fail;generalize hA:World.alloc _ _=W0;have HV:=hid (pre4_o hA nd3 nd3 nd3 nd3);clear hA;obtain⟨m0,m1,m2,_⟩:=HV.out.1.cells3;obtain⟨n0,n1,n2,_⟩:=HV.out.2.1.cells3;obtain⟨o0,o1,o2,_⟩:=HV.out.2.2.1.cells3;obtain⟨u0,u1,u2,_⟩:=HV.out.2.2.2.1.cells3;go_wp2_with fail;refine(HA.out _ HV.out.2.2.2.2).mono ?_;rintro e w9 ⟨s5,p5,k5,c5,q5,l5,d5,sz5,pz5,kz5,cz5,qz5,lz5,dz5,x5,y5,rfl,hG,hB9⟩;clear m0 m1 m2 n0 n1 n2 o0 o1 o2 u0 u1 u2 HA;have HB9:=hid (HB8.out.trans ((HV.out.2.2.2.2.trans (hB9.mono HV.out.2.2.2.2.size)).mono HB8.out.size));clear hB9;go_upto_region 3 with fail;have HX:=hid (pre1 w9 [.bool s5,.slice p5 k5 c5,.slice q5 l5 d5,.bool sz5,.slice pz5 kz5 cz5,.slice qz5 lz5 dz5,.bool x5,.bool y5] 26 nd8);generalize w9.alloc (.cells #[.bool s5,.slice p5 k5 c5,.slice q5 l5 d5,.bool sz5,.slice pz5 kz5 cz5,.slice qz5 lz5 dz5,.bool x5,.bool y5] 26)=w10 at *;have hP:=GRep.parts _ _ _ _ _ _ _ _ _ _ _ _ _ _ _ _ (hG.out.below HX.out.2);rw[HD.out] at hP;obtain⟨hf1,hf2,hx5,hy5⟩:=hP;have hx5':x5=false:=hx5;have hy5':y5=false:=hy5;subst hx5' hy5';clear hx5 hy5 hG;obtain⟨_,ha,_⟩:=hf1.parts;obtain⟨_,hb,hc⟩:=hf2.parts;have ha':Rep W32 w10 (.slice p5 k5 c5) 4:=ha;have hb':Rep W32 w10 (.slice pz5 kz5 cz5) 6:=hb;have hc':Rep W32 w10 (.slice qz5 lz5 dz5) 0:=hc;clear ha hb hc;obtain⟨rfl,hk1,ba,oa,rfl,hca⟩:=rep_one ha' (by omega) (by decide);obtain⟨rfl,hk2,bb,ob,rfl,hcb⟩:=rep_one hb' (by omega) (by decide);obtain rfl:=rep_zero hc';clear ha' hb' hc' hf1 hf2;obtain⟨m0,m1,m2,m3,m4,m5,m6,m7,_⟩:=HX.out.1.cells8;go_wp2_with fail
 go_ret
 exact⟨rfl,HB9.out.trans (HX.out.2.mono HB9.out.size)⟩
theorem etm_le{x y:Int×Tq}(hx:EOk 64 x)(hy:EOk 64 y):EOk 1000 (etm x y):=by
 have hf:=EF.times hx.ef hy.ef
 have hb:(etm x y).2.2.1 < W32 ^ 128∧(etm x y).2.2.2 < W32 ^ 128:=by
  have hp:1 < W32 ^ 128:=Nat.one_lt_pow (by omega) (by decide);unfold etm
  split
  ·exact⟨by show 0 < _;omega,hp⟩
  ·split
   ·exact⟨by show 0 < _;omega,by show 0 < _;omega⟩
   ·exact⟨Nat.lt_of_le_of_lt (Nat.div_le_self _ _) (lt_mul (c:=128) hx.bn hy.bn (by omega)),Nat.lt_of_le_of_lt (Nat.div_le_self _ _) (lt_mul (c:=128) hx.bd hy.bd (by omega))⟩
 have h2:EOk 128 (etm x y):=by
  refine⟨fun h0=>?_,fun h0=>?_,hb.1,hb.2⟩
  ·rcases hf with ⟨t,ht,e⟩ | e | e
   ·rw[e];exact ht
   ·rw[e] at h0;exact absurd h0 (by decide)
   ·rw[e] at h0;exact absurd h0 (by decide)
  ·rcases hf with ⟨t,ht,e⟩ | e | e
   ·rw[e] at h0;exact absurd rfl h0
   ·rw[e];exact⟨.inl rfl,rfl⟩
   ·rw[e];exact⟨.inr rfl,rfl⟩
 exact h2.le (by omega)
theorem IsMin.all{P:Int×Tq→Prop}{L c1 c2 c3 c4:Int×Tq}(h:IsMin L c1 c2 c3 c4)(h1:P c1)(h2:P c2)(h3:P c3)(h4:P c4):P L:=by
 rcases h.1 with e | e | e | e<;>rw[e]<;>assumption
theorem IsMax.all{P:Int×Tq→Prop}{L c1 c2 c3 c4:Int×Tq}(h:IsMax L c1 c2 c3 c4)(h1:P c1)(h2:P c2)(h3:P c3)(h4:P c4):P L:=by
 rcases h.1 with e | e | e | e<;>rw[e]<;>assumption
theorem stm_ok{x y:Ts}(hx:EOk 64 x.1∧EOk 64 x.2.1)(hy:EOk 64 y.1∧EOk 64 y.2.1)(ox:ele x.1 x.2.1)(oy:ele y.1 y.2.1):(SF x∧SF y)∧EOk 1000 (stm x y).1∧EOk 1000 (stm x y).2.1:=by
 have sx:SF x:=⟨hx.1.ef,hx.2.ef,ox⟩;have sy:SF y:=⟨hy.1.ef,hy.2.ef,oy⟩;obtain⟨⟨h1,h2⟩,_⟩:=stm_ends sx sy;exact⟨⟨sx,sy⟩,h1.all (etm_le hx.1 hy.1) (etm_le hx.1 hy.2) (etm_le hx.2 hy.1) (etm_le hx.2 hy.2),h2.all (etm_le hx.1 hy.1) (etm_le hx.1 hy.2) (etm_le hx.2 hy.1) (etm_le hx.2 hy.2)⟩
theorem srd_le{a:Ti}(h:(srd a).2.2=false):ele (srd a).1 (srd a).2.1:=by
 have hle:decide (0 < ecmp (srd a).1 (srd a).2.1)=false:=h;have hle:=of_decide_eq_false hle;unfold ele;omega
theorem sscale_eok{A:Nat}{x y:Ts}(h:∀a b,(a=x.1∨a=x.2.1)→(b=y.1∨b=y.2.1)→EOk A (etm a b)):EOk A (sscale x y).1∧EOk A (sscale x y).2.1:=by
 unfold sscale;constructor
 ·show EOk A (etm (if 0 < esgn y.1 then x.1 else x.2.1) y.1)
  split
  ·exact h _ _ (.inl rfl) (.inl rfl)
  ·exact h _ _ (.inr rfl) (.inl rfl)
 ·show EOk A (etm (if esgn y.2.1 < 0 then x.1 else x.2.1) y.2.1)
  split
  ·exact h _ _ (.inl rfl) (.inr rfl)
  ·exact h _ _ (.inr rfl) (.inr rfl)
theorem stimes_any(i1 s1 p1 k1 c1 q1 l1 d1 j1 sz1 pz1 kz1 cz1 qz1 lz1 dz1 e1 i2 s2 p2 k2 c2 q2 l2 d2 j2 sz2 pz2 kz2 cz2 qz2 lz2 dz2 e2)(x y:Ts)(w:World)(h:SRep w (.agg #[.int .i64 i1,.bool s1,.slice p1 k1 c1,.slice q1 l1 d1,.int .i64 j1,.bool sz1,.slice pz1 kz1 cz1,.slice qz1 lz1 dz1,.bool e1]) x)(h':SRep w (.agg #[.int .i64 i2,.bool s2,.slice p2 k2 c2,.slice q2 l2 d2,.int .i64 j2,.bool sz2,.slice pz2 kz2 cz2,.slice qz2 lz2 dz2,.bool e2]) y)(hx:EOk 64 x.1∧EOk 64 x.2.1)(hy:EOk 64 y.1∧EOk 64 y.2.1)(ht:TabOk w):
  Calls Tryz.prog 22 #[.agg #[.int .i64 i1,.bool s1,.slice p1 k1 c1,.slice q1 l1 d1,.int .i64 j1,.bool sz1,.slice pz1 kz1 cz1,.slice qz1 lz1 dz1,.bool e1],.agg #[.int .i64 i2,.bool s2,.slice p2 k2 c2,.slice q2 l2 d2,.int .i64 j2,.bool sz2,.slice pz2 kz2 cz2,.slice qz2 lz2 dz2,.bool e2]] w (SP w (stm x y)):=by
 have h1:=h.ends;have h2:=h'.ends;have kx:EOk 1000 x.1∧EOk 1000 x.2.1:=⟨hx.1.le (by omega),hx.2.le (by omega)⟩;have ky:EOk 1000 y.1∧EOk 1000 y.2.1:=⟨hy.1.le (by omega),hy.2.le (by omega)⟩;have S1:=hid (fun (W:World) (hW:Bw w W)=>esign_any i1 s1 p1 k1 c1 q1 l1 d1 x.1 W (h1.1.below hW));have S2:=hid (fun (W:World) (hW:Bw w W)=>esign_any j1 sz1 pz1 kz1 cz1 qz1 lz1 dz1 x.2.1 W (h1.2.1.below hW));have S3:=hid (fun (W:World) (hW:Bw w W)=>esign_any i2 s2 p2 k2 c2 q2 l2 d2 y.1 W (h2.1.below hW));have S4:=hid (fun (W:World) (hW:Bw w W)=>esign_any j2 sz2 pz2 kz2 cz2 qz2 lz2 dz2 y.2.1 W (h2.2.1.below hW));unfold stm
 by_cases o1:0≤esgn x.1
 ·rw[if_pos o1];exact stimes_1 i1 s1 p1 k1 c1 q1 l1 d1 j1 sz1 pz1 kz1 cz1 qz1 lz1 dz1 e1 i2 s2 p2 k2 c2 q2 l2 d2 j2 sz2 pz2 kz2 cz2 qz2 lz2 dz2 e2 _ (sscale x y) w (decide_eq_true o1) S1 (hid fun W hW=>scale_any i1 s1 p1 k1 c1 q1 l1 d1 j1 sz1 pz1 kz1 cz1 qz1 lz1 dz1 e1 i2 s2 p2 k2 c2 q2 l2 d2 j2 sz2 pz2 kz2 cz2 qz2 lz2 dz2 e2 x y W (h.below hW) (h'.below hW) kx ky (ht.below hW))
 rw[if_neg o1]
 by_cases o2:esgn x.2.1≤0
 ·rw[if_pos o2]
  exact stimes_2 i1 s1 p1 k1 c1 q1 l1 d1 j1 sz1 pz1 kz1 cz1 qz1 lz1 dz1 e1 i2 s2 p2 k2 c2 q2 l2 d2 j2 sz2 pz2 kz2 cz2 qz2 lz2 dz2 e2 _ _ (sneg x) (sscale (sneg x) y) (sneg (sscale (sneg x) y)) w (decide_eq_false o1) (decide_eq_true o2) S1 S2
   (hid fun W hW=>sneg_any i1 s1 p1 k1 c1 q1 l1 d1 j1 sz1 pz1 kz1 cz1 qz1 lz1 dz1 e1 x 1000 W (h.below hW) kx)
   (hid fun W i4 s4 p4 k4 c4 q4 l4 d4 j4 sz4 pz4 kz4 cz4 qz4 lz4 dz4 e4 hW hS=>scale_any i4 s4 p4 k4 c4 q4 l4 d4 j4 sz4 pz4 kz4 cz4 qz4 lz4 dz4 e4 i2 s2 p2 k2 c2 q2 l2 d2 j2 sz2 pz2 kz2 cz2 qz2 lz2 dz2 e2 (sneg x) y W hS (h'.below hW) ⟨kx.2.neg,kx.1.neg⟩ ky (ht.below hW))
   (hid fun W i5 s5 p5 k5 c5 q5 l5 d5 j5 sz5 pz5 kz5 cz5 qz5 lz5 dz5 e5 hS=>sneg_any i5 s5 p5 k5 c5 q5 l5 d5 j5 sz5 pz5 kz5 cz5 qz5 lz5 dz5 e5 _ 1000 W hS (sscale_eok fun a b ha hb=>etm_le (by rcases ha with rfl | rfl;exact hx.2.neg;exact hx.1.neg) (by rcases hb with rfl | rfl;exact hy.1;exact hy.2)))
 rw[if_neg o2]
 by_cases o3:0≤esgn y.1
 ·rw[if_pos o3];exact stimes_3 i1 s1 p1 k1 c1 q1 l1 d1 j1 sz1 pz1 kz1 cz1 qz1 lz1 dz1 e1 i2 s2 p2 k2 c2 q2 l2 d2 j2 sz2 pz2 kz2 cz2 qz2 lz2 dz2 e2 _ _ _ (sscale y x) w (decide_eq_false o1) (decide_eq_false o2) (decide_eq_true o3) S1 S2 S3 (hid fun W hW=>scale_any i2 s2 p2 k2 c2 q2 l2 d2 j2 sz2 pz2 kz2 cz2 qz2 lz2 dz2 e2 i1 s1 p1 k1 c1 q1 l1 d1 j1 sz1 pz1 kz1 cz1 qz1 lz1 dz1 e1 y x W (h'.below hW) (h.below hW) ky kx (ht.below hW))
 rw[if_neg o3]
 by_cases o4:esgn y.2.1≤0
 ·rw[if_pos o4]
  exact stimes_4 i1 s1 p1 k1 c1 q1 l1 d1 j1 sz1 pz1 kz1 cz1 qz1 lz1 dz1 e1 i2 s2 p2 k2 c2 q2 l2 d2 j2 sz2 pz2 kz2 cz2 qz2 lz2 dz2 e2 _ _ _ _ (sneg y) (sscale (sneg y) x) (sneg (sscale (sneg y) x)) w (decide_eq_false o1) (decide_eq_false o2) (decide_eq_false o3) (decide_eq_true o4) S1 S2 S3 S4
   (hid fun W hW=>sneg_any i2 s2 p2 k2 c2 q2 l2 d2 j2 sz2 pz2 kz2 cz2 qz2 lz2 dz2 e2 y 1000 W (h'.below hW) ky)
   (hid fun W i4 s4 p4 k4 c4 q4 l4 d4 j4 sz4 pz4 kz4 cz4 qz4 lz4 dz4 e4 hW hS=>scale_any i4 s4 p4 k4 c4 q4 l4 d4 j4 sz4 pz4 kz4 cz4 qz4 lz4 dz4 e4 i1 s1 p1 k1 c1 q1 l1 d1 j1 sz1 pz1 kz1 cz1 qz1 lz1 dz1 e1 (sneg y) x W hS (h.below hW) ⟨ky.2.neg,ky.1.neg⟩ kx (ht.below hW))
   (hid fun W i5 s5 p5 k5 c5 q5 l5 d5 j5 sz5 pz5 kz5 cz5 qz5 lz5 dz5 e5 hS=>sneg_any i5 s5 p5 k5 c5 q5 l5 d5 j5 sz5 pz5 kz5 cz5 qz5 lz5 dz5 e5 _ 1000 W hS (sscale_eok fun a b ha hb=>etm_le (by rcases ha with rfl | rfl;exact hy.2.neg;exact hy.1.neg) (by rcases hb with rfl | rfl;exact hx.1;exact hx.2)))
 rw[if_neg o4]
 exact stimes_5 i1 s1 p1 k1 c1 q1 l1 d1 j1 sz1 pz1 kz1 cz1 qz1 lz1 dz1 e1 i2 s2 p2 k2 c2 q2 l2 d2 j2 sz2 pz2 kz2 cz2 qz2 lz2 dz2 e2 _ _ _ _ (etm x.1 y.1) (etm x.1 y.2.1) (etm x.2.1 y.1) (etm x.2.1 y.2.1) _ _ _ w (hid rfl) (decide_eq_false o1) (decide_eq_false o2) (decide_eq_false o3) (decide_eq_false o4) S1 S2 S3 S4
  (hid fun W hW=>etimes_any i1 s1 p1 k1 c1 q1 l1 d1 j2 sz2 pz2 kz2 cz2 qz2 lz2 dz2 x.1 y.2.1 W (h1.1.below hW) (h2.2.1.below hW) kx.1 ky.2 (ht.below hW))
  (hid fun W hW=>etimes_any j1 sz1 pz1 kz1 cz1 qz1 lz1 dz1 i2 s2 p2 k2 c2 q2 l2 d2 x.2.1 y.1 W (h1.2.1.below hW) (h2.1.below hW) kx.2 ky.1 (ht.below hW))
  (hid fun W hW=>etimes_any i1 s1 p1 k1 c1 q1 l1 d1 i2 s2 p2 k2 c2 q2 l2 d2 x.1 y.1 W (h1.1.below hW) (h2.1.below hW) kx.1 ky.1 (ht.below hW))
  (hid fun W hW=>etimes_any j1 sz1 pz1 kz1 cz1 qz1 lz1 dz1 j2 sz2 pz2 kz2 cz2 qz2 lz2 dz2 x.2.1 y.2.1 W (h1.2.1.below hW) (h2.2.1.below hW) kx.2 ky.2 (ht.below hW))
  (hid fun W i4 s4 p4 k4 c4 q4 l4 d4 i5 s5 p5 k5 c5 q5 l5 d5 k1 k2=>eleast_any i4 s4 p4 k4 c4 q4 l4 d4 i5 s5 p5 k5 c5 q5 l5 d5 _ _ 1000 W k1 k2 (etm_le hx.1 hy.2) (etm_le hx.2 hy.1) (by omega))
  (hid fun W i4 s4 p4 k4 c4 q4 l4 d4 i5 s5 p5 k5 c5 q5 l5 d5 k1 k2=>egreatest_any i4 s4 p4 k4 c4 q4 l4 d4 i5 s5 p5 k5 c5 q5 l5 d5 _ _ 1000 W k1 k2 (etm_le hx.1 hy.1) (etm_le hx.2 hy.2) (by omega))
theorem enter_stimes(args:Array Value)(w:World):(callFunc 22 args).run Tryz.prog w=.ok (.enter 22 args) w:=call_enter Tryz.func22 (by kernel_rfl) rfl args w
theorem iMul_ret{W:World}{B:Nat}{a0 a1 a2 a3 a4 a5 a6 a7 ev:Value}{tm:Array Value}{R:Ending→World→Prop}(h2:tm[6]?.getD undef=.pointer (some ⟨B,0,none⟩))(h3:tm[7]?.getD undef=ev)(hV:Box W B #[a0,a1,a2,a3,a4,a5,a6,a7])(hR:R (.returned (.tuple #[.agg #[a0,a1,a2,a3,a4,a5,a6,a7],ev])) W):
  bodyPost Tryz.prog Tryz.f7 R .ret {tmps:=tm,defers:=[]} W:=by
 obtain⟨g0,g1,g2,g3,g4,g5,g6,g7,_⟩:=hV.cells8;exact bodyPost_ret (v:=.tuple #[.agg #[a0,a1,a2,a3,a4,a5,a6,a7],ev]) (by simp [results,Tryz.results7,go_sem,h2,h3,g0,g1,g2,g3,g4,g5,g6,g7]) rfl hR
set_option maxHeartbeats 2000000 in
set_option maxRecDepth 100000 in
theorem iMul_any(s1 p1 k1 c1 q1 l1 d1 sz1 pz1 kz1 cz1 qz1 lz1 dz1 x1 y1 s2 p2 k2 c2 q2 l2 d2 sz2 pz2 kz2 cz2 qz2 lz2 dz2 x2 y2 p)(a b a' b':Tq)(w:World)(ha:NRep w (.agg #[.bool s1,.slice p1 k1 c1,.slice q1 l1 d1]) a)(hb:NRep w (.agg #[.bool sz1,.slice pz1 kz1 cz1,.slice qz1 lz1 dz1]) b)(ha':NRep w (.agg #[.bool s2,.slice p2 k2 c2,.slice q2 l2 d2]) a')(hb':NRep w (.agg #[.bool sz2,.slice pz2 kz2 cz2,.slice qz2 lz2 dz2]) b')(ht:TabOk w):
  Calls Tryz.prog 7 #[.agg #[.bool s1,.slice p1 k1 c1,.slice q1 l1 d1,.bool sz1,.slice pz1 kz1 cz1,.slice qz1 lz1 dz1,.bool x1,.bool y1],.agg #[.bool s2,.slice p2 k2 c2,.slice q2 l2 d2,.bool sz2,.slice pz2 kz2 cz2,.slice qz2 lz2 dz2,.bool x2,.bool y2],.int .i64 p] w fun e w'=>∃s5 p5 k5 c5 q5 l5 d5 sz5 pz5 kz5 cz5 qz5 lz5 dz5 x5 y5,e=.returned (.tuple #[.agg #[.bool s5,.slice p5 k5 c5,.slice q5 l5 d5,.bool sz5,.slice pz5 kz5 cz5,.slice qz5 lz5 dz5,.bool x5,.bool y5],.int .i64 (rcode p stm (a,b,x1,y1) (a',b',x2,y2))])∧Hid (GRep w' (.agg #[.bool s5,.slice p5 k5 c5,.slice q5 l5 d5,.bool sz5,.slice pz5 kz5 cz5,.slice qz5 lz5 dz5,.bool x5,.bool y5]) (rval p stm (a,b,x1,y1) (a',b',x2,y2)))∧Bw w w':=by
 have HC:=hid (fun (W:World) (hW:Bw w W)=>
  rounded_gen s1 p1 k1 c1 q1 l1 d1 sz1 pz1 kz1 cz1 qz1 lz1 dz1 x1 y1 s2 p2 k2 c2 q2 l2 d2 sz2 pz2 kz2 cz2 qz2 lz2 dz2 x2 y2 p 22 #[] stm a b a' b' W (ha.below hW) (hb.below hW) (ha'.below hW) (hb'.below hW) (ht.below hW) enter_stimes
   (fun h1 h2 h3 h4 h5 h6=>(stm_ok ⟨rdE_ok (.inr rfl) h1,rdE_ok (.inl rfl) h2⟩ ⟨rdE_ok (.inr rfl) h3,rdE_ok (.inl rfl) h4⟩ (srd_le h5) (srd_le h6)).2)
   (fun h1 h2 h3 h4 h5 h6 W' i3 s3 p3 k3 c3 q3 l3 d3 j3 sz3 pz3 kz3 cz3 qz3 lz3 dz3 e3 i4 s4 p4 k4 c4 q4 l4 d4 j4 sz4 pz4 kz4 cz4 qz4 lz4 dz4 e4 hW' hS1 hS2=>stimes_any i3 s3 p3 k3 c3 q3 l3 d3 j3 sz3 pz3 kz3 cz3 qz3 lz3 dz3 e3 i4 s4 p4 k4 c4 q4 l4 d4 j4 sz4 pz4 kz4 cz4 qz4 lz4 dz4 e4 (srd (a,b,x1,y1)) (srd (a',b',x2,y2)) W' hS1 hS2 ⟨rdE_ok (.inr rfl) h1,rdE_ok (.inl rfl) h2⟩ ⟨rdE_ok (.inr rfl) h3,rdE_ok (.inl rfl) h4⟩ ((ht.below hW).below hW')))
 obtain⟨D,hD⟩:∃D,D=rval p stm (a,b,x1,y1) (a',b',x2,y2):=⟨_,rfl⟩;obtain⟨c,hc⟩:∃D,D=rcode p stm (a,b,x1,y1) (a',b',x2,y2):=⟨_,rfl⟩;rw[←hD,←hc] at HC ⊢;clear ha hb ha' hb' ht hD hc;obtain⟨pi,hpi⟩:∃pi:Int,pi=p:=⟨_,rfl⟩;rw[←hpi] at HC ⊢;clear hpi;go_enter Tryz.func7,Tryz.ntmps7;go_wp2_with fail;generalize hA:World.alloc _ _=W0;have HV:=hid (pre3_o hA nd8 nd8 nd8);clear hA;refine(HC.out _ HV.out.2.2.2).mono ?_;rintro e w1 ⟨s5,p5,k5,c5,q5,l5,d5,sz5,pz5,kz5,cz5,qz5,lz5,dz5,x5,y5,rfl,hG,hB1⟩;have HE:=hid (Ai (HV.out.2.2.1.below hB1) (HV.out.2.2.2.trans (hB1.mono HV.out.2.2.2.size)));clear hB1;obtain⟨g0,g1,g2,g3,g4,g5,g6,g7,f0,f1,f2,f3,f4,f5,f6,f7⟩:=HE.out.1.cells8;go_wp2_with fail;exact iMul_ret rfl rfl (HE.out.1.stores [.bool s5,.slice p5 k5 c5,.slice q5 l5 d5,.bool sz5,.slice pz5 kz5 cz5,.slice qz5 lz5 dz5,.bool x5,.bool y5] rfl nd8) ⟨s5,p5,k5,c5,q5,l5,d5,sz5,pz5,kz5,cz5,qz5,lz5,dz5,x5,y5,rfl,hid (GRep.stores (k:=0) (l:=[.bool s5,.slice p5 k5 c5,.slice q5 l5 d5,.bool sz5,.slice pz5 kz5 cz5,.slice qz5 lz5 dz5,.bool x5,.bool y5]) hG.out HE.out.1 nd8),Below.stores (k:=0) (l:=[.bool s5,.slice p5 k5 c5,.slice q5 l5 d5,.bool sz5,.slice pz5 kz5 cz5,.slice qz5 lz5 dz5,.bool x5,.bool y5]) HE.out.2 (by omega)⟩
end Go.Proofs.YteblinkehldghaaGreatDoor
