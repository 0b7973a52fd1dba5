/- The opposite of a set, of the reference. -/
import Derived.Test.YteblinkehldghaaGreatDoorNegI
set_option maxHeartbeats 2000000
set_option maxRecDepth 100000
namespace Go.Proofs.YteblinkehldghaaGreatDoor
open Go.RowKit Dg
open And renaming intro→Ai
def jminus (r:Tj):Tj:=if r.2.2.2.2 then r else (fneg r.2.1,fneg r.1,r.2.2.2.1,r.2.2.1,false)
theorem jMinus_ret{W:World}{B:Nat}{a0 a1 a2 a3 a4 a5 a6 a7 a8:Value}{tm:Array Value}{R:Ending→World→Prop}(h2:tm[2]?.getD undef=.pointer (some ⟨B,0,none⟩))(hV:Box W B #[a0,a1,a2,a3,a4,a5,a6,a7,a8])(hR:R (.returned (.agg #[a0,a1,a2,a3,a4,a5,a6,a7,a8])) W):
  bodyPost Tryz.prog Tryz.f67 R .ret {tmps:=tm,defers:=[]} W:=by
 obtain⟨g0,g1,g2,g3,g4,g5,g6,g7,g8,_⟩:=hV.cells9;exact bodyPost_ret (v:=.agg #[a0,a1,a2,a3,a4,a5,a6,a7,a8]) (by simp [results,Tryz.results67,go_sem,h2,g0,g1,g2,g3,g4,g5,g6,g7,g8]) rfl hR
theorem jMinus_some(s1 p1 k1 c1 q1 l1 d1 sz1 pz1 kz1 cz1 qz1 lz1 dz1 x1 y1 e1)(x:Tj)(w:World)(h:JRep w (.agg #[.bool s1,.slice p1 k1 c1,.slice q1 l1 d1,.bool sz1,.slice pz1 kz1 cz1,.slice qz1 lz1 dz1,.bool x1,.bool y1,.bool e1]) x)(he:x.2.2.2.2=false):
  Calls Tryz.prog 67 #[.agg #[.bool s1,.slice p1 k1 c1,.slice q1 l1 d1,.bool sz1,.slice pz1 kz1 cz1,.slice qz1 lz1 dz1,.bool x1,.bool y1,.bool e1]] w fun e w'=>∃s3 p3 k3 c3 q3 l3 d3 sz3 pz3 kz3 cz3 qz3 lz3 dz3 x3 y3 e3,e=.returned (.agg #[.bool s3,.slice p3 k3 c3,.slice q3 l3 d3,.bool sz3,.slice pz3 kz3 cz3,.slice qz3 lz3 dz3,.bool x3,.bool y3,.bool e3])∧Hid (JRep w' (.agg #[.bool s3,.slice p3 k3 c3,.slice q3 l3 d3,.bool sz3,.slice pz3 kz3 cz3,.slice qz3 lz3 dz3,.bool x3,.bool y3,.bool e3]) (jminus x))∧Bw w w':=by
 have h1:=JRep.parts s1 p1 k1 c1 q1 l1 d1 sz1 pz1 kz1 cz1 qz1 lz1 dz1 x1 y1 e1 h;have HL:=hid (fun (W:World) (hW:Bw w W)=>qopen (t:=fneg x.1) (Opp_any (.agg #[.bool s1,.slice p1 k1 c1,.slice q1 l1 d1]) x.1 W (h1.1.below hW)));have HH:=hid (fun (W:World) (hW:Bw w W)=>qopen (t:=fneg x.2.1) (Opp_any (.agg #[.bool sz1,.slice pz1 kz1 cz1,.slice qz1 lz1 dz1]) x.2.1 W (h1.2.1.below hW)));obtain⟨_,_,hi,hj,hee⟩:=h1;rw[he] at hee;subst hee;obtain⟨r,hr⟩:∃r,r=jminus x:=⟨_,rfl⟩;obtain⟨rl,hrl⟩:∃r,r=fneg x.1:=⟨_,rfl⟩;obtain⟨rh,hrh⟩:∃r,r=fneg x.2.1:=⟨_,rfl⟩;rw[←hr];rw[←hrl] at HL;rw[←hrh] at HH;have HX:Hid (r=(rh,rl,y1,x1,false)):=hid (by rw[hr,hrl,hrh,hi,hj];unfold jminus;rw[he];rfl);clear hr hrl hrh h he hi hj;go_enter Tryz.func67,Tryz.ntmps67;go_wp2_with fail;generalize hA:World.alloc _ _=W0;have HV:=hid (pre2_o hA nd9 nd9);clear hA;have HQ:=hid (QQ.i1 (cs:=[.bool s1,.slice p1 k1 c1,.slice q1 l1 d1,.bool sz1,.slice pz1 kz1 cz1,.slice qz1 lz1 dz1,.bool x1,.bool y1,.bool false]) HV.out.1 HV.out.2.2);have HS:=hid (fun (w':World) (hb:QQ w [(w.heap.size,[.bool s1,.slice p1 k1 c1,.slice q1 l1 d1,.bool sz1,.slice pz1 kz1 cz1,.slice qz1 lz1 dz1,.bool x1,.bool y1,.bool false])] w')=>hb.s_9);have HN:Hid (Apart [(w.heap.size,[.bool s1,.slice p1 k1 c1,.slice q1 l1 d1,.bool sz1,.slice pz1 kz1 cz1,.slice qz1 lz1 dz1,.bool x1,.bool y1,.bool false])] (w.heap.size+1)):=hid (ne1 (by omega));have HI:Hid (w.heap.size≤w.heap.size+1):=hid (by omega)
 go_region_held3 (fun w'=>w'.cell? ⟨w.heap.size,0,none⟩=some (.bool s1)∧w'.cell? ⟨w.heap.size,1,none⟩=some (.slice p1 k1 c1)∧w'.cell? ⟨w.heap.size,2,none⟩=some (.slice q1 l1 d1)∧w'.cell? ⟨w.heap.size,3,none⟩=some (.bool sz1)∧w'.cell? ⟨w.heap.size,4,none⟩=some (.slice pz1 kz1 cz1)∧w'.cell? ⟨w.heap.size,5,none⟩=some (.slice qz1 lz1 dz1)∧w'.cell? ⟨w.heap.size,6,none⟩=some (.bool x1)∧w'.cell? ⟨w.heap.size,7,none⟩=some (.bool y1)∧w'.cell? ⟨w.heap.size,8,none⟩=some (.bool false)∧Hid (QQ w [(w.heap.size,[.bool s1,.slice p1 k1 c1,.slice q1 l1 d1,.bool sz1,.slice pz1 kz1 cz1,.slice qz1 lz1 dz1,.bool x1,.bool y1,.bool false])] w'))
  (first | (refine HS.out _ ?_;first | (with_reducible exact HQ.out.drew) | (with_reducible assumption) | (with_reducible refine QQ.st9 ?_ HN.out HI.out;assumption)))
  (first
   | (go_at_call_of 103 pz1;refine(HH.out _ HQ.out.drew.bel).mono ?_;rintro e wa ⟨s4,p4,k4,c4,q4,l4,d4,rfl,hE1,hB1⟩;have hQ1:=HQ.out.drew.call hB1;have hV1:=(HV.out.2.1.drew).below hB1)
   | (go_at_call_of 103 p1;refine(HL.out _ hQ1.bel).mono ?_;rintro e wb ⟨s5,p5,k5,c5,q5,l5,d5,rfl,hE2,hB2⟩;have hQ2:=hQ1.call hB2;have hV2:=hV1.below hB2;obtain⟨g0,g1,g2,g3,g4,g5,g6,g7,g8,f0,f1,f2,f3,f4,f5,f6,f7,f8⟩:=hV2.cells9))
 rename_i hHeld
 clear hHeld;have HE:=hid (Ai hV2 (Ai (hE1.out.below hB2) (Ai hE2.out hQ2.bel)));clear hQ1 hQ2 hV1 hV2 hB1 hB2 hE1 hE2;go_wp2_with fail;exact jMinus_ret rfl (HE.out.1.stores [.bool s4,.slice p4 k4 c4,.slice q4 l4 d4,.bool s5,.slice p5 k5 c5,.slice q5 l5 d5,.bool y1,.bool x1,.bool false] rfl nd9) ⟨_,_,_,_,_,_,_,_,_,_,_,_,_,_,_,_,_,rfl,hid ⟨_,_,_,_,_,_,_,_,_,_,_,_,_,_,_,_,_,rfl,by rw[HX.out];exact QNorm.stores (k:=0) (l:=[.bool s4,.slice p4 k4 c4,.slice q4 l4 d4,.bool s5,.slice p5 k5 c5,.slice q5 l5 d5,.bool y1,.bool x1,.bool false]) HE.out.2.1 HE.out.1 nd9,by rw[HX.out];exact QNorm.stores (k:=0) (l:=[.bool s4,.slice p4 k4 c4,.slice q4 l4 d4,.bool s5,.slice p5 k5 c5,.slice q5 l5 d5,.bool y1,.bool x1,.bool false]) HE.out.2.2.1 HE.out.1 nd9,by rw[HX.out],by rw[HX.out],by rw[HX.out]⟩,Below.stores (k:=0) (l:=[.bool s4,.slice p4 k4 c4,.slice q4 l4 d4,.bool s5,.slice p5 k5 c5,.slice q5 l5 d5,.bool y1,.bool x1,.bool false]) HE.out.2.2.2 (Nat.le_succ _)⟩
theorem jMinus_none(s1 p1 k1 c1 q1 l1 d1 sz1 pz1 kz1 cz1 qz1 lz1 dz1 x1 y1 e1)(x:Tj)(w:World)(h:JRep w (.agg #[.bool s1,.slice p1 k1 c1,.slice q1 l1 d1,.bool sz1,.slice pz1 kz1 cz1,.slice qz1 lz1 dz1,.bool x1,.bool y1,.bool e1]) x)(he:x.2.2.2.2=true):
  Calls Tryz.prog 67 #[.agg #[.bool s1,.slice p1 k1 c1,.slice q1 l1 d1,.bool sz1,.slice pz1 kz1 cz1,.slice qz1 lz1 dz1,.bool x1,.bool y1,.bool e1]] w fun e w'=>∃s3 p3 k3 c3 q3 l3 d3 sz3 pz3 kz3 cz3 qz3 lz3 dz3 x3 y3 e3,e=.returned (.agg #[.bool s3,.slice p3 k3 c3,.slice q3 l3 d3,.bool sz3,.slice pz3 kz3 cz3,.slice qz3 lz3 dz3,.bool x3,.bool y3,.bool e3])∧Hid (JRep w' (.agg #[.bool s3,.slice p3 k3 c3,.slice q3 l3 d3,.bool sz3,.slice pz3 kz3 cz3,.slice qz3 lz3 dz3,.bool x3,.bool y3,.bool e3]) (jminus x))∧Bw w w':=by
 have hee:=(JRep.parts s1 p1 k1 c1 q1 l1 d1 sz1 pz1 kz1 cz1 qz1 lz1 dz1 x1 y1 e1 h).2.2.2.2;rw[he] at hee;subst hee
 have hX:jminus x=x:=by unfold jminus;rw[he];rfl
 rw[hX];have HJ:=hid h;clear h he hX;go_enter Tryz.func67,Tryz.ntmps67;go_upto_region 2 with fail;generalize hA:World.alloc _ _=W0;have HV:=hid (pre2_o hA nd9 nd9);clear hA;obtain⟨m0,m1,m2,m3,m4,m5,m6,m7,m8,_⟩:=HV.out.1.cells9;obtain⟨g0,g1,g2,g3,g4,g5,g6,g7,g8,f0,f1,f2,f3,f4,f5,f6,f7,f8⟩:=HV.out.2.1.cells9;go_wp2_with fail;exact jMinus_ret rfl (HV.out.2.1.stores [.bool s1,.slice p1 k1 c1,.slice q1 l1 d1,.bool sz1,.slice pz1 kz1 cz1,.slice qz1 lz1 dz1,.bool x1,.bool y1,.bool true] rfl nd9) ⟨_,_,_,_,_,_,_,_,_,_,_,_,_,_,_,_,_,rfl,hid (JRep.stores (k:=0) (l:=[.bool s1,.slice p1 k1 c1,.slice q1 l1 d1,.bool sz1,.slice pz1 kz1 cz1,.slice qz1 lz1 dz1,.bool x1,.bool y1,.bool true]) (HJ.out.below HV.out.2.2) HV.out.2.1 nd9),Below.stores (k:=0) (l:=[.bool s1,.slice p1 k1 c1,.slice q1 l1 d1,.bool sz1,.slice pz1 kz1 cz1,.slice qz1 lz1 dz1,.bool x1,.bool y1,.bool true]) HV.out.2.2 (Nat.le_succ _)⟩
theorem jMinus_any(s1 p1 k1 c1 q1 l1 d1 sz1 pz1 kz1 cz1 qz1 lz1 dz1 x1 y1 e1)(x:Tj)(w:World)(h:JRep w (.agg #[.bool s1,.slice p1 k1 c1,.slice q1 l1 d1,.bool sz1,.slice pz1 kz1 cz1,.slice qz1 lz1 dz1,.bool x1,.bool y1,.bool e1]) x):
  Calls Tryz.prog 67 #[.agg #[.bool s1,.slice p1 k1 c1,.slice q1 l1 d1,.bool sz1,.slice pz1 kz1 cz1,.slice qz1 lz1 dz1,.bool x1,.bool y1,.bool e1]] w fun e w'=>∃s3 p3 k3 c3 q3 l3 d3 sz3 pz3 kz3 cz3 qz3 lz3 dz3 x3 y3 e3,e=.returned (.agg #[.bool s3,.slice p3 k3 c3,.slice q3 l3 d3,.bool sz3,.slice pz3 kz3 cz3,.slice qz3 lz3 dz3,.bool x3,.bool y3,.bool e3])∧Hid (JRep w' (.agg #[.bool s3,.slice p3 k3 c3,.slice q3 l3 d3,.bool sz3,.slice pz3 kz3 cz3,.slice qz3 lz3 dz3,.bool x3,.bool y3,.bool e3]) (jminus x))∧Bw w w':=by
 by_cases he:x.2.2.2.2=true
 ·exact jMinus_none s1 p1 k1 c1 q1 l1 d1 sz1 pz1 kz1 cz1 qz1 lz1 dz1 x1 y1 e1 x w h he
 ·exact jMinus_some s1 p1 k1 c1 q1 l1 d1 sz1 pz1 kz1 cz1 qz1 lz1 dz1 x1 y1 e1 x w h (by simpa using he)
theorem QFit.neg{t:Tq}(h:QFit t):QFit (fneg t):=by
 obtain⟨s,n,d,hd,rfl⟩:=h.1;rw[fneg_frac hd];exact⟨⟨_,_,_,hd,rfl⟩,h.2.1,h.2.2⟩
theorem sv_fneg(t:Tq):sv (fneg t).1 (fneg t).2.1=- sv t.1 t.2.1:=by
 obtain⟨s,n,d⟩:=t;show sv (!s && decide (n≠0)) n=- sv s n
 cases s<;>by_cases h:n=0<;>simp [sv,h]
theorem fcmp_neg{a b:Tq}(h:fcmp a b≤0):fcmp (fneg b) (fneg a)≤0:=by
 rw[fcmp_nonpos] at h ⊢;rw[sv_fneg,sv_fneg];show -sv b.1 b.2.1*(a.2.2:Int)≤-sv a.1 a.2.1*(b.2.2:Int);rw[Int.neg_mul,Int.neg_mul];omega
theorem fneg_zero:fneg (false,0,0)=(false,0,0):=by decide
theorem JGood.neg{r:Tj}(h:JGood r):JGood (jminus r):=by
 rcases h with rfl | ⟨he,hl,hh,hc⟩
 ·exact .inl rfl
 ·unfold jminus;rw[he];refine .inr ⟨rfl,?_,?_,fun hx hy=>fcmp_neg (hc hy hx)⟩
  ·rcases hh with ⟨h1,h2⟩ | ⟨h1,h2⟩
   ·exact .inl ⟨h1,by show fneg r.2.1=_;rw[h2,fneg_zero]⟩
   ·exact .inr ⟨h1,h2.neg⟩
  ·rcases hl with ⟨h1,h2⟩ | ⟨h1,h2⟩
   ·exact .inl ⟨h1,by show fneg r.1=_;rw[h2,fneg_zero]⟩
   ·exact .inr ⟨h1,h2.neg⟩
theorem EOk.neg{A:Nat}{x:Int×Tq}(h:EOk A x):EOk A (eneg x):=by
 unfold eneg
 split
 case isTrue h0=>
  refine⟨fun _=>?_,fun h1=>absurd rfl h1,h.bn,h.bd⟩;obtain⟨s,n,d,hd,e⟩:=h.fin h0;exact⟨!s,n,d,hd,by show fneg x.2=_;rw[e,fneg_frac hd]⟩
 case isFalse h0=>
  refine⟨fun h1=>?_,fun _=>⟨?_,rfl⟩,Nat.pow_pos W32_pos,Nat.pow_pos W32_pos⟩
  ·have h1':-x.1=0:=h1;omega
  ·show -x.1=1∨-x.1=-1
   rcases(h.inf h0).1 with e | e<;>rw[e]<;>simp
def emax (x y:Int×Tq):Int×Tq:=if 0 < ecmp y x then y else x
theorem egreatest_ret{W:World}{B:Nat}{a0 a1 a2 a3:Value}{tm:Array Value}{R:Ending→World→Prop}(h2:tm[4]?.getD undef=.pointer (some ⟨B,0,none⟩))(hV:Box W B #[a0,a1,a2,a3])(hR:R (.returned (.agg #[a0,a1,a2,a3])) W):
  bodyPost Tryz.prog Tryz.f55 R .ret {tmps:=tm,defers:=[]} W:=by
 obtain⟨g0,g1,g2,g3,_⟩:=hV.cells4;exact bodyPost_ret (v:=.agg #[a0,a1,a2,a3]) (by simp [results,Tryz.results55,go_sem,h2,g0,g1,g2,g3]) rfl hR
theorem egreatest_any(i1 s1 p1 k1 c1 q1 l1 d1 i2 s2 p2 k2 c2 q2 l2 d2)(x y:Int×Tq)(A:Nat)(w:World)(h:ERep w (.agg #[.int .i64 i1,.bool s1,.slice p1 k1 c1,.slice q1 l1 d1]) x)(h':ERep w (.agg #[.int .i64 i2,.bool s2,.slice p2 k2 c2,.slice q2 l2 d2]) y)(hx:EOk A x)(hy:EOk A y)(hA:A≤4000000):
  Calls Tryz.prog 55 #[.agg #[.int .i64 i1,.bool s1,.slice p1 k1 c1,.slice q1 l1 d1],.agg #[.int .i64 i2,.bool s2,.slice p2 k2 c2,.slice q2 l2 d2]] w fun e w'=>∃i3 s3 p3 k3 c3 q3 l3 d3,e=.returned (.agg #[.int .i64 i3,.bool s3,.slice p3 k3 c3,.slice q3 l3 d3])∧Hid (ERep w' (.agg #[.int .i64 i3,.bool s3,.slice p3 k3 c3,.slice q3 l3 d3]) (emax x y))∧Bw w w':=by
 have HC:=hid (fun (W:World) (hW:Bw w W)=>ecompare_any i2 s2 p2 k2 c2 q2 l2 d2 i1 s1 p1 k1 c1 q1 l1 d1 y x A W (h'.below hW) (h.below hW) hy hx hA);have HR:=hid (Ai (fun (W:World) (hW:Bw w W)=>ERep.below h hW) (fun (W:World) (hW:Bw w W)=>ERep.below h' hW));obtain⟨z,hz⟩:∃z,z=emax x y:=⟨_,rfl⟩;rw[←hz]
 have hD:z=if 0 < ecmp y x then y else x:=hz
 clear hz;obtain⟨r,hr⟩:∃r,r=ecmp y x:=⟨_,rfl⟩;rw[←hr] at HC hD;have HZ:=hid hD;clear h h' hx hy hr hD;go_enter Tryz.func55,Tryz.ntmps55;go_wp2_with fail;generalize hA:World.alloc _ _=W0;have HV:=hid (pre3_o hA nd4 nd4 nd4);clear hA
 by_cases hc:0 < r
 ·have hc1:decide (0 < r)=true:=decide_eq_true hc;refine(HC.out _ HV.out.2.2.2).mono ?_;rintro e w1 ⟨rfl,hB1⟩;have HE:=hid (Ai (HV.out.1.below hB1) (Ai (HV.out.2.1.below hB1) (Ai (HV.out.2.2.1.below hB1) (HV.out.2.2.2.trans (hB1.mono HV.out.2.2.2.size)))));clear hB1;obtain⟨m0,m1,m2,m3,_⟩:=HE.out.2.1.cells4;obtain⟨g0,g1,g2,g3,f0,f1,f2,f3⟩:=HE.out.2.2.1.cells4;go_wp2_with fail;exact egreatest_ret rfl (HE.out.2.2.1.stores [.int .i64 i2,.bool s2,.slice p2 k2 c2,.slice q2 l2 d2] rfl nd4) ⟨i2,s2,p2,k2,c2,q2,l2,d2,rfl,hid (by rw[HZ.out,if_pos (show 0 < r by omega)];exact ERep.stores (k:=0) (l:=[.int .i64 i2,.bool s2,.slice p2 k2 c2,.slice q2 l2 d2]) (HR.out.2 _ HE.out.2.2.2) HE.out.2.2.1 nd4),Below.stores (k:=0) (l:=[.int .i64 i2,.bool s2,.slice p2 k2 c2,.slice q2 l2 d2]) HE.out.2.2.2 (by omega)⟩
 ·have hc1:decide (0 < r)=false:=decide_eq_false hc;refine(HC.out _ HV.out.2.2.2).mono ?_;rintro e w1 ⟨rfl,hB1⟩;have HE:=hid (Ai (HV.out.1.below hB1) (Ai (HV.out.2.1.below hB1) (Ai (HV.out.2.2.1.below hB1) (HV.out.2.2.2.trans (hB1.mono HV.out.2.2.2.size)))));clear hB1;obtain⟨m0,m1,m2,m3,_⟩:=HE.out.1.cells4;obtain⟨g0,g1,g2,g3,f0,f1,f2,f3⟩:=HE.out.2.2.1.cells4;go_wp2_with fail;exact egreatest_ret rfl (HE.out.2.2.1.stores [.int .i64 i1,.bool s1,.slice p1 k1 c1,.slice q1 l1 d1] rfl nd4) ⟨i1,s1,p1,k1,c1,q1,l1,d1,rfl,hid (by rw[HZ.out,if_neg (show ¬(0 < r) by omega)];exact ERep.stores (k:=0) (l:=[.int .i64 i1,.bool s1,.slice p1 k1 c1,.slice q1 l1 d1]) (HR.out.1 _ HE.out.2.2.2) HE.out.2.2.1 nd4),Below.stores (k:=0) (l:=[.int .i64 i1,.bool s1,.slice p1 k1 c1,.slice q1 l1 d1]) HE.out.2.2.2 (by omega)⟩
def emin (x y:Int×Tq):Int×Tq:=if ecmp y x < 0 then y else x
theorem eleast_ret{W:World}{B:Nat}{a0 a1 a2 a3:Value}{tm:Array Value}{R:Ending→World→Prop}(h2:tm[4]?.getD undef=.pointer (some ⟨B,0,none⟩))(hV:Box W B #[a0,a1,a2,a3])(hR:R (.returned (.agg #[a0,a1,a2,a3])) W):
  bodyPost Tryz.prog Tryz.f54 R .ret {tmps:=tm,defers:=[]} W:=by
 obtain⟨g0,g1,g2,g3,_⟩:=hV.cells4;exact bodyPost_ret (v:=.agg #[a0,a1,a2,a3]) (by simp [results,Tryz.results54,go_sem,h2,g0,g1,g2,g3]) rfl hR
theorem eleast_any(i1 s1 p1 k1 c1 q1 l1 d1 i2 s2 p2 k2 c2 q2 l2 d2)(x y:Int×Tq)(A:Nat)(w:World)(h:ERep w (.agg #[.int .i64 i1,.bool s1,.slice p1 k1 c1,.slice q1 l1 d1]) x)(h':ERep w (.agg #[.int .i64 i2,.bool s2,.slice p2 k2 c2,.slice q2 l2 d2]) y)(hx:EOk A x)(hy:EOk A y)(hA:A≤4000000):
  Calls Tryz.prog 54 #[.agg #[.int .i64 i1,.bool s1,.slice p1 k1 c1,.slice q1 l1 d1],.agg #[.int .i64 i2,.bool s2,.slice p2 k2 c2,.slice q2 l2 d2]] w fun e w'=>∃i3 s3 p3 k3 c3 q3 l3 d3,e=.returned (.agg #[.int .i64 i3,.bool s3,.slice p3 k3 c3,.slice q3 l3 d3])∧Hid (ERep w' (.agg #[.int .i64 i3,.bool s3,.slice p3 k3 c3,.slice q3 l3 d3]) (emin x y))∧Bw w w':=by
 have HC:=hid (fun (W:World) (hW:Bw w W)=>ecompare_any i2 s2 p2 k2 c2 q2 l2 d2 i1 s1 p1 k1 c1 q1 l1 d1 y x A W (h'.below hW) (h.below hW) hy hx hA);have HR:=hid (Ai (fun (W:World) (hW:Bw w W)=>ERep.below h hW) (fun (W:World) (hW:Bw w W)=>ERep.below h' hW));obtain⟨z,hz⟩:∃z,z=emin x y:=⟨_,rfl⟩;rw[←hz]
 have hD:z=if ecmp y x < 0 then y else x:=hz
 clear hz;obtain⟨r,hr⟩:∃r,r=ecmp y x:=⟨_,rfl⟩;rw[←hr] at HC hD;have HZ:=hid hD;clear h h' hx hy hr hD;go_enter Tryz.func54,Tryz.ntmps54;go_wp2_with fail;generalize hA:World.alloc _ _=W0;have HV:=hid (pre3_o hA nd4 nd4 nd4);clear hA
 by_cases hc:r < 0
 ·have hc1:decide (r < 0)=true:=decide_eq_true hc;refine(HC.out _ HV.out.2.2.2).mono ?_;rintro e w1 ⟨rfl,hB1⟩;have HE:=hid (Ai (HV.out.1.below hB1) (Ai (HV.out.2.1.below hB1) (Ai (HV.out.2.2.1.below hB1) (HV.out.2.2.2.trans (hB1.mono HV.out.2.2.2.size)))));clear hB1;obtain⟨m0,m1,m2,m3,_⟩:=HE.out.2.1.cells4;obtain⟨g0,g1,g2,g3,f0,f1,f2,f3⟩:=HE.out.2.2.1.cells4;go_wp2_with fail;exact eleast_ret rfl (HE.out.2.2.1.stores [.int .i64 i2,.bool s2,.slice p2 k2 c2,.slice q2 l2 d2] rfl nd4) ⟨i2,s2,p2,k2,c2,q2,l2,d2,rfl,hid (by rw[HZ.out,if_pos (show r < 0 by omega)];exact ERep.stores (k:=0) (l:=[.int .i64 i2,.bool s2,.slice p2 k2 c2,.slice q2 l2 d2]) (HR.out.2 _ HE.out.2.2.2) HE.out.2.2.1 nd4),Below.stores (k:=0) (l:=[.int .i64 i2,.bool s2,.slice p2 k2 c2,.slice q2 l2 d2]) HE.out.2.2.2 (by omega)⟩
 ·have hc1:decide (r < 0)=false:=decide_eq_false hc;refine(HC.out _ HV.out.2.2.2).mono ?_;rintro e w1 ⟨rfl,hB1⟩;have HE:=hid (Ai (HV.out.1.below hB1) (Ai (HV.out.2.1.below hB1) (Ai (HV.out.2.2.1.below hB1) (HV.out.2.2.2.trans (hB1.mono HV.out.2.2.2.size)))));clear hB1;obtain⟨m0,m1,m2,m3,_⟩:=HE.out.1.cells4;obtain⟨g0,g1,g2,g3,f0,f1,f2,f3⟩:=HE.out.2.2.1.cells4;go_wp2_with fail;exact eleast_ret rfl (HE.out.2.2.1.stores [.int .i64 i1,.bool s1,.slice p1 k1 c1,.slice q1 l1 d1] rfl nd4) ⟨i1,s1,p1,k1,c1,q1,l1,d1,rfl,hid (by rw[HZ.out,if_neg (show ¬(r < 0) by omega)];exact ERep.stores (k:=0) (l:=[.int .i64 i1,.bool s1,.slice p1 k1 c1,.slice q1 l1 d1]) (HR.out.1 _ HE.out.2.2.2) HE.out.2.2.1 nd4),Below.stores (k:=0) (l:=[.int .i64 i1,.bool s1,.slice p1 k1 c1,.slice q1 l1 d1]) HE.out.2.2.2 (by omega)⟩
def qmax (x y:Tq):Tq:=if 0 < fcmp y x then y else x
def esgn (x:Int×Tq):Int:=if x.1=0 then sgn x.2.1 x.2.2.1 else x.1
theorem esign_fin(s1 p1 k1 c1 q1 l1 d1)(t:Tq)(w:World)(h:FNorm w (.agg #[.bool s1,.slice p1 k1 c1,.slice q1 l1 d1]) t):
  Calls Tryz.prog 51 #[.agg #[.int .i64 0,.bool s1,.slice p1 k1 c1,.slice q1 l1 d1]] w fun e w'=>e=.returned (.int .i64 (sgn t.1 t.2.1))∧Bw w w':=by
 have HO:=hid (fun (W:World) (hW:Bw w W)=>Sign_any (.agg #[.bool s1,.slice p1 k1 c1,.slice q1 l1 d1]) t.1 t.2.1 t.2.2 W (FNorm.below h hW));clear h;obtain⟨r,hr⟩:∃r,r=sgn t.1 t.2.1:=⟨_,rfl⟩;rw[←hr] at HO ⊢;clear hr;go_enter Tryz.func51,Tryz.ntmps51;go_wp2_with fail;generalize hA:World.alloc _ _=W0;have HV:=hid (pre1_o hA nd4);clear hA;refine(infinite_any 0 s1 p1 k1 c1 q1 l1 d1 W0).mono ?_;rintro e w1 ⟨rfl,hB1⟩;rw[show((0:Int) != 0)=false from rfl];have HE:=hid (Ai (HV.out.1.below hB1) (HV.out.2.trans (hB1.mono HV.out.2.size)));clear hB1;obtain⟨u0,u1,u2,u3,_⟩:=HE.out.1.cells4;go_wp2_with fail;refine(HO.out _ HE.out.2).mono ?_;rintro e w2 ⟨rfl,hB2⟩;go_wp2_with fail
 go_ret
 exact⟨rfl,HE.out.2.trans (hB2.mono HE.out.2.size)⟩
theorem esign_inf(i1 s1 p1 k1 c1 q1 l1 d1)(w:World)(h:i1≠0):
  Calls Tryz.prog 51 #[.agg #[.int .i64 i1,.bool s1,.slice p1 k1 c1,.slice q1 l1 d1]] w fun e w'=>e=.returned (.int .i64 i1)∧Bw w w':=by
 have hne:(i1 != 0)=true:=by simpa using h
 have HN:=hid hne;clear h hne;go_enter Tryz.func51,Tryz.ntmps51;go_wp2_with fail;generalize hA:World.alloc _ _=W0;have HV:=hid (pre1_o hA nd4);clear hA;refine(infinite_any i1 s1 p1 k1 c1 q1 l1 d1 W0).mono ?_;rintro e w1 ⟨rfl,hB1⟩;rw[HN.out];have HE:=hid (Ai (HV.out.1.below hB1) (HV.out.2.trans (hB1.mono HV.out.2.size)));clear hB1;obtain⟨u0,u1,u2,u3,_⟩:=HE.out.1.cells4;go_wp2_with fail
 go_ret
 exact⟨rfl,HE.out.2⟩
theorem esign_any(i1 s1 p1 k1 c1 q1 l1 d1)(x:Int×Tq)(w:World)(h:ERep w (.agg #[.int .i64 i1,.bool s1,.slice p1 k1 c1,.slice q1 l1 d1]) x):
  Calls Tryz.prog 51 #[.agg #[.int .i64 i1,.bool s1,.slice p1 k1 c1,.slice q1 l1 d1]] w fun e w'=>e=.returned (.int .i64 (esgn x))∧Bw w w':=by
 obtain⟨hi,hF⟩:=h.frac;unfold esgn
 by_cases h0:x.1=0
 ·rw[if_pos h0];rw[h0] at hi;subst hi;exact esign_fin s1 p1 k1 c1 q1 l1 d1 x.2 w hF
 ·rw[if_neg h0];rw[←hi];exact esign_inf i1 s1 p1 k1 c1 q1 l1 d1 w (by rw[hi];exact h0)
theorem whole_ret{W:World}{B:Nat}{a0 a1 a2 a3:Value}{tm:Array Value}{R:Ending→World→Prop}(h2:tm[2]?.getD undef=.pointer (some ⟨B,0,none⟩))(hV:Box W B #[a0,a1,a2,a3])(hR:R (.returned (.agg #[a0,a1,a2,a3])) W):
  bodyPost Tryz.prog Tryz.f78 R .ret {tmps:=tm,defers:=[]} W:=by
 obtain⟨g0,g1,g2,g3,_⟩:=hV.cells4;exact bodyPost_ret (v:=.agg #[a0,a1,a2,a3]) (by simp [results,Tryz.results78,go_sem,h2,g0,g1,g2,g3]) rfl hR
theorem whole_zero(w:World):
  Calls Tryz.prog 78 #[.int .i64 0] w fun e w'=>∃i2 s2 p2 k2 c2 q2 l2 d2,e=.returned (.agg #[.int .i64 i2,.bool s2,.slice p2 k2 c2,.slice q2 l2 d2])∧Hid (ERep w' (.agg #[.int .i64 i2,.bool s2,.slice p2 k2 c2,.slice q2 l2 d2]) (0,false,0,1))∧Bw w w':=by
 have HO:=hid (fun (W:World)=>fopen (t:=(false,0,1)) ((FracFromInt_any 0 W (by omega) (by omega)).mono fun e w' h=>h));go_enter Tryz.func78,Tryz.ntmps78;go_wp2_with fail;generalize hA:World.alloc _ _=W0;have HV:=hid (pre1_o hA nd4);clear hA;refine(HO.out _).mono ?_;rintro e w2 ⟨s2,p2,k2,c2,q2,l2,d2,rfl,hF,hB2⟩;have HE2:=hid (Ai (HV.out.1.below hB2) (HV.out.2.trans (hB2.mono HV.out.2.size)));clear hB2;go_wp2_with fail;refine(finite_any s2 p2 k2 c2 q2 l2 d2 w2).mono ?_;rintro e w3 ⟨rfl,hB3⟩;have HE3:=hid (Ai (HE2.out.1.below hB3) (HE2.out.2.trans (hB3.mono HE2.out.2.size)));have HF3:=hid (hF.out.below hB3);clear hB3 hF;obtain⟨g0,g1,g2,g3,f0,f1,f2,f3⟩:=HE3.out.1.cells4;go_wp2_with fail;exact whole_ret rfl (HE3.out.1.stores [.int .i64 0,.bool s2,.slice p2 k2 c2,.slice q2 l2 d2] rfl nd4) ⟨0,s2,p2,k2,c2,q2,l2,d2,rfl,hid (ERep.mk (x:=(0,false,0,1)) rfl (FNorm.stores (k:=0) (l:=[.int .i64 0,.bool s2,.slice p2 k2 c2,.slice q2 l2 d2]) HF3.out HE3.out.1 nd4)),Below.stores (k:=0) (l:=[.int .i64 0,.bool s2,.slice p2 k2 c2,.slice q2 l2 d2]) HE3.out.2 (Nat.le_refl _)⟩
end Go.Proofs.YteblinkehldghaaGreatDoor
