/- Size of the reference: the absolute values of a set. -/
import Derived.Test.YtheojajaefjecaaGreatDoorAbsI
import Derived.Test.YtheojajaefjecaaGreatDoorHasT
import Derived.Test.YtheojajaefjecaaGreatDoorLawD
import Derived.Test.YtheojajaefjecaaGreatDoorHasU
import Derived.Test.YtheojajaefjecaaGreatDoorMkI
set_option maxHeartbeats 8000000
set_option maxRecDepth 100000
namespace Go.Proofs.YtheojajaefjecaaGreatDoor
open Go.RowKit Dg
open And renaming intro→Ai
theorem jSize_ret{W:World}{B:Nat}{a0 a1 a2 a3 a4 a5 a6 a7 a8:Value}{tm:Array Value}{R:Ending→World→Prop}(h2:tm[2]?.getD undef=.pointer (some ⟨B,0,none⟩))(hV:Box W B #[a0,a1,a2,a3,a4,a5,a6,a7,a8])(hR:R (.returned (.agg #[a0,a1,a2,a3,a4,a5,a6,a7,a8])) W):
  bodyPost Tryz.prog Tryz.f131 R .ret {tmps:=tm,defers:=[]} W:=by
 obtain⟨g0,g1,g2,g3,g4,g5,g6,g7,g8,_⟩:=hV.cells9;exact bodyPost_ret (v:=.agg #[a0,a1,a2,a3,a4,a5,a6,a7,a8]) (by simp [results,Tryz.results131,go_sem,h2,g0,g1,g2,g3,g4,g5,g6,g7,g8]) rfl hR
theorem jSize_id(s1 p1 k1 c1 q1 l1 d1 sz1 pz1 kz1 cz1 qz1 lz1 dz1 x1 y1 e1 z)(r:Tj)(w:World)(h:JRep w (.agg #[.bool s1,.slice p1 k1 c1,.slice q1 l1 d1,.bool sz1,.slice pz1 kz1 cz1,.slice qz1 lz1 dz1,.bool x1,.bool y1,.bool e1]) r)(hz:z=4∨z=0∨z=2∨z=1)
  (hg:∀W,Bw w W→Calls Tryz.prog 186 #[.agg #[.bool s1,.slice p1 k1 c1,.slice q1 l1 d1,.bool sz1,.slice pz1 kz1 cz1,.slice qz1 lz1 dz1,.bool x1,.bool y1,.bool e1]] W fun e w'=>e=.returned (.int .i64 z)∧Bw W w'):
  Calls Tryz.prog 131 #[.agg #[.bool s1,.slice p1 k1 c1,.slice q1 l1 d1,.bool sz1,.slice pz1 kz1 cz1,.slice qz1 lz1 dz1,.bool x1,.bool y1,.bool e1]] w fun e w'=>∃s3 p3 k3 c3 q3 l3 d3 sz3 pz3 kz3 cz3 qz3 lz3 dz3 x3 y3 e3,e=.returned (.agg #[.bool s3,.slice p3 k3 c3,.slice q3 l3 d3,.bool sz3,.slice pz3 kz3 cz3,.slice qz3 lz3 dz3,.bool x3,.bool y3,.bool e3])∧Hid (JRep w' (.agg #[.bool s3,.slice p3 k3 c3,.slice q3 l3 d3,.bool sz3,.slice pz3 kz3 cz3,.slice qz3 lz3 dz3,.bool x3,.bool y3,.bool e3]) r)∧Bw w w':=by
 have HZ:=hid h;have HG:=hid hg;clear h hg
 rcases hz with rfl | rfl | rfl | rfl
 all_goals
  go_enter Tryz.func131,Tryz.ntmps131
  go_upto_region 1 with fail
  generalize hA:World.alloc _ _=W0
  have HV:=hid (pre2_o hA nd_J nd_J)
  clear hA
  obtain⟨m0,m1,m2,m3,m4,m5,m6,m7,m8,_⟩:=HV.out.1.cells9
  go_wp2_with fail
  refine(HG.out _ HV.out.2.2).mono ?_
  rintro e w1 ⟨rfl,hB1⟩
  clear m0 m1 m2 m3 m4 m5 m6 m7 m8
  have HE:=hid (Ai (HV.out.2.1.below hB1) (Ai (HV.out.1.below hB1) (HV.out.2.2.trans (hB1.mono HV.out.2.2.size))))
  clear hB1
  obtain⟨m0,m1,m2,m3,m4,m5,m6,m7,m8,_⟩:=HE.out.2.1.cells9
  obtain⟨g0,g1,g2,g3,g4,g5,g6,g7,g8,n0,n1,n2,n3,n4,n5,n6,n7,n8⟩:=HE.out.1.cells9
  go_wp2_with fail
  exact jSize_ret rfl (HE.out.1.stores [.bool s1,.slice p1 k1 c1,.slice q1 l1 d1,.bool sz1,.slice pz1 kz1 cz1,.slice qz1 lz1 dz1,.bool x1,.bool y1,.bool e1] rfl nd_J) ⟨_,_,_,_,_,_,_,_,_,_,_,_,_,_,_,_,_,rfl,hid (JRep.stores (k:=0) (l:=[.bool s1,.slice p1 k1 c1,.slice q1 l1 d1,.bool sz1,.slice pz1 kz1 cz1,.slice qz1 lz1 dz1,.bool x1,.bool y1,.bool e1]) (HZ.out.below HE.out.2.2) HE.out.1 nd_J),Below.stores (k:=0) (l:=[.bool s1,.slice p1 k1 c1,.slice q1 l1 d1,.bool sz1,.slice pz1 kz1 cz1,.slice qz1 lz1 dz1,.bool x1,.bool y1,.bool e1]) HE.out.2.2 (by omega)⟩
theorem jSize_neg(s1 p1 k1 c1 q1 l1 d1 sz1 pz1 kz1 cz1 qz1 lz1 dz1 x1 y1 e1 z)(r:Tj)(w:World)(h:JRep w (.agg #[.bool s1,.slice p1 k1 c1,.slice q1 l1 d1,.bool sz1,.slice pz1 kz1 cz1,.slice qz1 lz1 dz1,.bool x1,.bool y1,.bool e1]) r)(hz:z=-2∨z=-1)
  (hg:∀W,Bw w W→Calls Tryz.prog 186 #[.agg #[.bool s1,.slice p1 k1 c1,.slice q1 l1 d1,.bool sz1,.slice pz1 kz1 cz1,.slice qz1 lz1 dz1,.bool x1,.bool y1,.bool e1]] W fun e w'=>e=.returned (.int .i64 z)∧Bw W w'):
  Calls Tryz.prog 131 #[.agg #[.bool s1,.slice p1 k1 c1,.slice q1 l1 d1,.bool sz1,.slice pz1 kz1 cz1,.slice qz1 lz1 dz1,.bool x1,.bool y1,.bool e1]] w fun e w'=>∃s3 p3 k3 c3 q3 l3 d3 sz3 pz3 kz3 cz3 qz3 lz3 dz3 x3 y3 e3,e=.returned (.agg #[.bool s3,.slice p3 k3 c3,.slice q3 l3 d3,.bool sz3,.slice pz3 kz3 cz3,.slice qz3 lz3 dz3,.bool x3,.bool y3,.bool e3])∧Hid (JRep w' (.agg #[.bool s3,.slice p3 k3 c3,.slice q3 l3 d3,.bool sz3,.slice pz3 kz3 cz3,.slice qz3 lz3 dz3,.bool x3,.bool y3,.bool e3]) (jminus r))∧Bw w w':=by
 have HM:=hid (fun (W:World) (hW:Bw w W)=>jMinus_any s1 p1 k1 c1 q1 l1 d1 sz1 pz1 kz1 cz1 qz1 lz1 dz1 x1 y1 e1 r W (h.below hW));have HG:=hid hg;clear h hg
 rcases hz with rfl | rfl
 all_goals
  go_enter Tryz.func131,Tryz.ntmps131
  go_upto_region 1 with fail
  generalize hA:World.alloc _ _=W0
  have HV:=hid (pre2_o hA nd_J nd_J)
  clear hA
  obtain⟨m0,m1,m2,m3,m4,m5,m6,m7,m8,_⟩:=HV.out.1.cells9
  go_wp2_with fail
  refine(HG.out _ HV.out.2.2).mono ?_
  rintro e w1 ⟨rfl,hB1⟩
  clear m0 m1 m2 m3 m4 m5 m6 m7 m8
  have HE:=hid (Ai (HV.out.2.1.below hB1) (Ai (HV.out.1.below hB1) (HV.out.2.2.trans (hB1.mono HV.out.2.2.size))))
  clear hB1
  obtain⟨m0,m1,m2,m3,m4,m5,m6,m7,m8,_⟩:=HE.out.2.1.cells9
  go_wp2_with fail
  refine(HM.out _ HE.out.2.2).mono ?_
  rintro e w3 ⟨s3,p3,k3,c3,q3,l3,d3,sz3,pz3,kz3,cz3,qz3,lz3,dz3,x3,y3,e3,rfl,hS,hB3⟩
  clear m0 m1 m2 m3 m4 m5 m6 m7 m8
  have HE3:=hid (Ai (HE.out.1.below hB3) (HE.out.2.2.trans (hB3.mono HE.out.2.2.size)))
  clear hB3
  obtain⟨g0,g1,g2,g3,g4,g5,g6,g7,g8,n0,n1,n2,n3,n4,n5,n6,n7,n8⟩:=HE3.out.1.cells9
  go_wp2_with fail
  exact jSize_ret rfl (HE3.out.1.stores [.bool s3,.slice p3 k3 c3,.slice q3 l3 d3,.bool sz3,.slice pz3 kz3 cz3,.slice qz3 lz3 dz3,.bool x3,.bool y3,.bool e3] rfl nd_J) ⟨s3,p3,k3,c3,q3,l3,d3,sz3,pz3,kz3,cz3,qz3,lz3,dz3,x3,y3,e3,rfl,hid (JRep.stores (k:=0) (l:=[.bool s3,.slice p3 k3 c3,.slice q3 l3 d3,.bool sz3,.slice pz3 kz3 cz3,.slice qz3 lz3 dz3,.bool x3,.bool y3,.bool e3]) hS.out HE3.out.1 nd_J),Below.stores (k:=0) (l:=[.bool s3,.slice p3 k3 c3,.slice q3 l3 d3,.bool sz3,.slice pz3 kz3 cz3,.slice qz3 lz3 dz3,.bool x3,.bool y3,.bool e3]) HE3.out.2 (by omega)⟩
theorem jrep_inf(w:World):JRep w (.agg #[.bool false,.slice none 0 0,.slice none 0 0,.bool false,.slice none 0 0,.slice none 0 0,.bool false,.bool true,.bool false]) ((false,0,0),(false,0,0),false,true,false):=⟨_,_,_,_,_,_,_,_,_,_,_,_,_,_,_,_,_,rfl,QNorm.zero w,QNorm.zero w,rfl,rfl,rfl⟩
def jmix (r:Tj):Tj:=if r.2.2.1 || r.2.2.2.1 then ((false,0,0),(false,0,0),false,true,false) else ((false,0,0),qmax (fneg r.1) r.2.1,false,false,false)
theorem jSize_inf(s1 p1 k1 c1 q1 l1 d1 sz1 pz1 kz1 cz1 qz1 lz1 dz1 x1 y1 e1)(w:World)(hxy:(x1 || y1)=true)
  (hg:∀W,Bw w W→Calls Tryz.prog 186 #[.agg #[.bool s1,.slice p1 k1 c1,.slice q1 l1 d1,.bool sz1,.slice pz1 kz1 cz1,.slice qz1 lz1 dz1,.bool x1,.bool y1,.bool e1]] W fun e w'=>e=.returned (.int .i64 3)∧Bw W w'):
  Calls Tryz.prog 131 #[.agg #[.bool s1,.slice p1 k1 c1,.slice q1 l1 d1,.bool sz1,.slice pz1 kz1 cz1,.slice qz1 lz1 dz1,.bool x1,.bool y1,.bool e1]] w fun e w'=>∃s3 p3 k3 c3 q3 l3 d3 sz3 pz3 kz3 cz3 qz3 lz3 dz3 x3 y3 e3,e=.returned (.agg #[.bool s3,.slice p3 k3 c3,.slice q3 l3 d3,.bool sz3,.slice pz3 kz3 cz3,.slice qz3 lz3 dz3,.bool x3,.bool y3,.bool e3])∧Hid (JRep w' (.agg #[.bool s3,.slice p3 k3 c3,.slice q3 l3 d3,.bool sz3,.slice pz3 kz3 cz3,.slice qz3 lz3 dz3,.bool x3,.bool y3,.bool e3]) ((false,0,0),(false,0,0),false,true,false))∧Bw w w':=by
 have HG:=hid hg;clear hg;go_enter Tryz.func131,Tryz.ntmps131;go_upto_region 1 with fail;generalize hA:World.alloc _ _=W0;have HV:=hid (pre2_o hA nd_J nd_J);clear hA;obtain⟨m0,m1,m2,m3,m4,m5,m6,m7,m8,_⟩:=HV.out.1.cells9;go_wp2_with fail;refine(HG.out _ HV.out.2.2).mono ?_;rintro e w1 ⟨rfl,hB1⟩;clear m0 m1 m2 m3 m4 m5 m6 m7 m8;have HE:=hid (Ai (HV.out.2.1.below hB1) (Ai (HV.out.1.below hB1) (HV.out.2.2.trans (hB1.mono HV.out.2.2.size))));clear hB1;obtain⟨m0,m1,m2,m3,m4,m5,m6,m7,m8,_⟩:=HE.out.2.1.cells9;clear m0 m1 m2 m3 m4 m5 m6 m7 m8
 cases x1<;>cases y1
 ·exact absurd hxy (by decide)
 all_goals
  obtain⟨m0,m1,m2,m3,m4,m5,m6,m7,m8,_⟩:=HE.out.2.1.cells9
  go_upto_region 13 with fail
  generalize hA:World.alloc _ _=w2
  obtain⟨hB2,hX2,_⟩:=al_step hA nd_J
  clear hA m0 m1 m2 m3 m4 m5 m6 m7 m8
  have hlt:=HE.out.1.lt
  have HE3:=hid (Ai (HE.out.1.below hB2) (HE.out.2.2.trans (hB2.mono HE.out.2.2.size)))
  clear hB2
  obtain⟨m0,m1,m2,m3,m4,m5,m6,m7,m8,_⟩:=hX2.cells9
  obtain⟨g0,g1,g2,g3,g4,g5,g6,g7,g8,n0,n1,n2,n3,n4,n5,n6,n7,n8⟩:=HE3.out.1.cells9
  go_wp2_with fail
  exact jSize_ret rfl (HE3.out.1.stores [.bool false,.slice none 0 0,.slice none 0 0,.bool false,.slice none 0 0,.slice none 0 0,.bool false,.bool true,.bool false] rfl nd_J) ⟨_,_,_,_,_,_,_,_,_,_,_,_,_,_,_,_,_,rfl,hid (JRep.stores (k:=0) (l:=[.bool false,.slice none 0 0,.slice none 0 0,.bool false,.slice none 0 0,.slice none 0 0,.bool false,.bool true,.bool false]) (jrep_inf _) HE3.out.1 nd_J),Below.stores (k:=0) (l:=[.bool false,.slice none 0 0,.slice none 0 0,.bool false,.slice none 0 0,.slice none 0 0,.bool false,.bool true,.bool false]) HE3.out.2 (by omega)⟩
theorem QOk.neg{t:Tq}(h:QOk t):QOk (fneg t):=by
 obtain⟨s,n,d,hd,rfl⟩:=h.1;rw[fneg_frac hd];exact⟨⟨_,_,_,hd,rfl⟩,h.2.1,h.2.2⟩
theorem QQ.st3o{w w1:World}{l:List (Nat×List Value)}{B:Nat}{a b c:Value}(h:QQ w l w1)(hne:Apart l B)(hB:w.heap.size≤B):QQ w l (((w1.setCell ⟨B,3,none⟩ a).setCell ⟨B,4,none⟩ b).setCell ⟨B,5,none⟩ c):=QQ.stores (k:=3) (vs:=[a,b,c]) h hne hB
theorem jSize_fin(s1 p1 k1 c1 q1 l1 d1 sz1 pz1 kz1 cz1 qz1 lz1 dz1 e1)(a b:Tq)(w:World)(ha:QNorm w (.agg #[.bool s1,.slice p1 k1 c1,.slice q1 l1 d1]) a)(hb:QNorm w (.agg #[.bool sz1,.slice pz1 kz1 cz1,.slice qz1 lz1 dz1]) b)(hx:QOk a)(hy:QOk b)
  (hg:∀W,Bw w W→Calls Tryz.prog 186 #[.agg #[.bool s1,.slice p1 k1 c1,.slice q1 l1 d1,.bool sz1,.slice pz1 kz1 cz1,.slice qz1 lz1 dz1,.bool false,.bool false,.bool e1]] W fun e w'=>e=.returned (.int .i64 3)∧Bw W w'):
  Calls Tryz.prog 131 #[.agg #[.bool s1,.slice p1 k1 c1,.slice q1 l1 d1,.bool sz1,.slice pz1 kz1 cz1,.slice qz1 lz1 dz1,.bool false,.bool false,.bool e1]] w fun e w'=>∃s3 p3 k3 c3 q3 l3 d3 sz3 pz3 kz3 cz3 qz3 lz3 dz3 x3 y3 e3,e=.returned (.agg #[.bool s3,.slice p3 k3 c3,.slice q3 l3 d3,.bool sz3,.slice pz3 kz3 cz3,.slice qz3 lz3 dz3,.bool x3,.bool y3,.bool e3])∧Hid (JRep w' (.agg #[.bool s3,.slice p3 k3 c3,.slice q3 l3 d3,.bool sz3,.slice pz3 kz3 cz3,.slice qz3 lz3 dz3,.bool x3,.bool y3,.bool e3]) ((false,0,0),qmax (fneg a) b,false,false,false))∧Bw w w':=by
 have HG:=hid hg;have HL:=hid (fun (W:World) (hW:Bw w W)=>qopen (t:=fneg a) (Opp_any (.agg #[.bool s1,.slice p1 k1 c1,.slice q1 l1 d1]) a W (ha.below hW)));have HM:=hid (fun (W:World) s4 p4 k4 c4 q4 l4 d4 (hW:Bw w W) (h4:QNorm W (.agg #[.bool s4,.slice p4 k4 c4,.slice q4 l4 d4]) (fneg a))=>jMost_any s4 p4 k4 c4 q4 l4 d4 sz1 pz1 kz1 cz1 qz1 lz1 dz1 (fneg a) b W h4 (hb.below hW) hx.neg hy);obtain⟨n,hn⟩:∃r,r=fneg a:=⟨_,rfl⟩;rw[←hn] at HL HM ⊢;obtain⟨z,hz⟩:∃r,r=qmax n b:=⟨_,rfl⟩;rw[←hz] at HM ⊢;clear hg ha hb hx hy hn hz;go_enter Tryz.func131,Tryz.ntmps131;go_upto_region 1 with fail;generalize hA:World.alloc _ _=W0;have HV:=hid (pre2_o hA nd_J nd_J);clear hA;obtain⟨m0,m1,m2,m3,m4,m5,m6,m7,m8,_⟩:=HV.out.1.cells9;go_wp2_with fail;refine(HG.out _ HV.out.2.2).mono ?_;rintro e w1 ⟨rfl,hB1⟩;clear m0 m1 m2 m3 m4 m5 m6 m7 m8;have HE:=hid (Ai (HV.out.2.1.below hB1) (Ai (HV.out.1.below hB1) (HV.out.2.2.trans (hB1.mono HV.out.2.2.size))));clear hB1;obtain⟨m0,m1,m2,m3,m4,m5,m6,m7,m8,_⟩:=HE.out.2.1.cells9;go_upto_region 12 with fail;generalize hA:World.alloc _ _=w2;obtain⟨hB2,hX2,hz2⟩:=al_step hA nd_J;clear hA m0 m1 m2 m3 m4 m5 m6 m7 m8;have hlt:=HE.out.1.lt;have HX:=hid hX2;have HE3:=hid (Ai (HE.out.1.below hB2) (HE.out.2.2.trans (hB2.mono HE.out.2.2.size)));have HQ:=hid (QQ.i1 (cs:=[.bool s1,.slice p1 k1 c1,.slice q1 l1 d1,.bool sz1,.slice pz1 kz1 cz1,.slice qz1 lz1 dz1,.bool false,.bool false,.bool e1]) (HE.out.2.1.below hB2) (HE.out.2.2.trans (hB2.mono HE.out.2.2.size)));clear hB2 hX2;have HS:=hid (fun (w':World) (hb:QQ w [(w.heap.size,[.bool s1,.slice p1 k1 c1,.slice q1 l1 d1,.bool sz1,.slice pz1 kz1 cz1,.slice qz1 lz1 dz1,.bool false,.bool false,.bool e1])] w')=>hb.s_9);have HN:Hid (Apart [(w.heap.size,[.bool s1,.slice p1 k1 c1,.slice q1 l1 d1,.bool sz1,.slice pz1 kz1 cz1,.slice qz1 lz1 dz1,.bool false,.bool false,.bool e1])] w1.heap.size):=hid (ne1 (by omega));have HI:Hid (w.heap.size≤w1.heap.size):=hid (by omega)
 go_region_held3 (fun w'=>w'.cell? ⟨w.heap.size,0,none⟩=some (.bool s1)∧w'.cell? ⟨w.heap.size,1,none⟩=some (.slice p1 k1 c1)∧w'.cell? ⟨w.heap.size,2,none⟩=some (.slice q1 l1 d1)∧w'.cell? ⟨w.heap.size,3,none⟩=some (.bool sz1)∧w'.cell? ⟨w.heap.size,4,none⟩=some (.slice pz1 kz1 cz1)∧w'.cell? ⟨w.heap.size,5,none⟩=some (.slice qz1 lz1 dz1)∧w'.cell? ⟨w.heap.size,6,none⟩=some (.bool false)∧w'.cell? ⟨w.heap.size,7,none⟩=some (.bool false)∧w'.cell? ⟨w.heap.size,8,none⟩=some (.bool e1)∧Hid (QQ w [(w.heap.size,[.bool s1,.slice p1 k1 c1,.slice q1 l1 d1,.bool sz1,.slice pz1 kz1 cz1,.slice qz1 lz1 dz1,.bool false,.bool false,.bool e1])] w'))
  (first | (refine HS.out _ ?_;first | (with_reducible exact HQ.out.drew) | (with_reducible assumption) | (with_reducible refine QQ.st3o ?_ HN.out HI.out;assumption)))
  (first
   | (go_at_call 135;refine(HL.out _ HQ.out.drew.bel).mono ?_;rintro e wb ⟨s4,p4,k4,c4,q4,l4,d4,rfl,hE2,hB2⟩;have hQ2:=HQ.out.drew.call hB2;have hV2:=(HE3.out.1.drew).below hB2;have hX2:=(HX.out.drew).below hB2)
   | (go_at_call 187;refine(HM.out _ s4 p4 k4 c4 q4 l4 d4 hQ2.bel hE2).mono ?_;rintro e wc ⟨s5,p5,k5,c5,q5,l5,d5,rfl,hE3,hB3⟩;have hQ3:=hQ2.call hB3;have hV3:=hV2.below hB3;have hX3:=hX2.below hB3;obtain⟨g0,g1,g2,g3,g4,g5,g6,g7,g8,n0,n1,n2,n3,n4,n5,n6,n7,n8⟩:=hX3.cells9))
 rename_i hHeld
 clear hHeld;generalize hW:World.setCell _ _ _=w4
 have hX4:Box w4 w1.heap.size #[.bool false,.slice none 0 0,.slice none 0 0,.bool s5,.slice p5 k5 c5,.slice q5 l5 d5,.bool false,.bool false,.bool false]:=by rw[←hW];exact Box.stores_at (m:=[.bool false,.slice none 0 0,.slice none 0 0,.bool false,.slice none 0 0,.slice none 0 0,.bool false,.bool false,.bool false]) (k:=3) (l:=[.bool s5,.slice p5 k5 c5,.slice q5 l5 d5]) hX3 nd3
 have hV4:Box w4 (w.heap.size+1) _:=Box.of_eq (Box.stores_other (k:=3) (l:=[.bool s5,.slice p5 k5 c5,.slice q5 l5 d5]) hV3 (by omega)) hW
 have hF4:QNorm w4 (.agg #[.bool s5,.slice p5 k5 c5,.slice q5 l5 d5]) z:=by rw[←hW];exact QNorm.stores (k:=3) (l:=[.bool s5,.slice p5 k5 c5,.slice q5 l5 d5]) hE3.out hX3 nd3
 have hB4:Bw w w4:=by rw[←hW];exact Below.stores (k:=3) (l:=[.bool s5,.slice p5 k5 c5,.slice q5 l5 d5]) hQ3.bel (by omega)
 have HE4:=hid (Ai hV4 (Ai hX4 (Ai hF4 hB4)));clear hW hX2 hX3 hX4 hV2 hV3 hV4 hF4 hB4 hQ2 hQ3 hB2 hB3 hE2 hE3 g0 g1 g2 g3 g4 g5 g6 g7 g8 n0 n1 n2 n3 n4 n5 n6 n7 n8;obtain⟨m0,m1,m2,m3,m4,m5,m6,m7,m8,_⟩:=HE4.out.2.1.cells9;obtain⟨g0,g1,g2,g3,g4,g5,g6,g7,g8,n0,n1,n2,n3,n4,n5,n6,n7,n8⟩:=HE4.out.1.cells9;go_wp2_with fail;exact jSize_ret rfl (HE4.out.1.stores [.bool false,.slice none 0 0,.slice none 0 0,.bool s5,.slice p5 k5 c5,.slice q5 l5 d5,.bool false,.bool false,.bool false] rfl nd_J) ⟨_,_,_,_,_,_,_,_,_,_,_,_,_,_,_,_,_,rfl,hid (JRep.stores (k:=0) (l:=[.bool false,.slice none 0 0,.slice none 0 0,.bool s5,.slice p5 k5 c5,.slice q5 l5 d5,.bool false,.bool false,.bool false]) ⟨_,_,_,_,_,_,_,_,_,_,_,_,_,_,_,_,_,rfl,QNorm.zero _,HE4.out.2.2.1,rfl,rfl,rfl⟩ HE4.out.1 nd_J),Below.stores (k:=0) (l:=[.bool false,.slice none 0 0,.slice none 0 0,.bool s5,.slice p5 k5 c5,.slice q5 l5 d5,.bool false,.bool false,.bool false]) HE4.out.2.2.2 (by omega)⟩
def sgo (x y:Bool) (a b:Int):Int:=if !x && decide (0≤a) then (if !y && decide (b≤0) then 0 else if decide (0 < a) then 2 else 1) else if !y && decide (b≤0) then (if decide (b < 0) then -2 else -1) else 3
def jsg (r:Tj):Int:=if r.2.2.2.2 then 4 else sgo r.2.2.1 r.2.2.2.1 (sgn r.1.1 r.1.2.1) (sgn r.2.1.1 r.2.1.2.1)
set_option maxHeartbeats 60000000 in
set_option maxRecDepth 100000 in
theorem jSignOf_some(a b z s1 p1 k1 c1 q1 l1 d1 sz1 pz1 kz1 cz1 qz1 lz1 dz1 x1 y1)(w:World)(hz:sgo x1 y1 a b=z)
  (ha:∀W,Bw w W→Calls Tryz.prog 65 #[.agg #[.bool s1,.slice p1 k1 c1,.slice q1 l1 d1]] W fun e w'=>e=.returned (.int .i64 a)∧Bw W w')
  (hb:∀W,Bw w W→Calls Tryz.prog 65 #[.agg #[.bool sz1,.slice pz1 kz1 cz1,.slice qz1 lz1 dz1]] W fun e w'=>e=.returned (.int .i64 b)∧Bw W w'):
  Calls Tryz.prog 186 #[.agg #[.bool s1,.slice p1 k1 c1,.slice q1 l1 d1,.bool sz1,.slice pz1 kz1 cz1,.slice qz1 lz1 dz1,.bool x1,.bool y1,.bool false]] w fun e w'=>e=.returned (.int .i64 z)∧Bw w w':=by
 have HLo:=hid ha;have HHi:=hid hb;clear ha hb
 have H:∀(u1 u2 v1 v2:Bool),decide (0≤a)=u1→decide (0 < a)=u2→decide (b≤0)=v1→decide (b < 0)=v2→
   (x1=false∧y1=false∧u1=true∧v1=true)∨(x1=false∧y1=false∧u1=true∧v1=false∧u2=true)∨(x1=false∧y1=false∧u1=true∧v1=false∧u2=false)∨
   (x1=false∧y1=false∧u1=false∧v1=true∧v2=true)∨(x1=false∧y1=false∧u1=false∧v1=true∧v2=false)∨(x1=false∧y1=false∧u1=false∧v1=false)∨
   (x1=true∧y1=false∧v1=true∧v2=true)∨(x1=true∧y1=false∧v1=true∧v2=false)∨(x1=true∧y1=false∧v1=false)∨
   (x1=false∧y1=true∧u1=true∧u2=true)∨(x1=false∧y1=true∧u1=true∧u2=false)∨(x1=false∧y1=true∧u1=false)∨(x1=true∧y1=true):=by
  intro u1 u2 v1 v2 _ _ _ _
  cases x1<;>cases y1<;>cases u1<;>cases v1<;>cases u2<;>cases v2<;>simp
 obtain⟨u1,f1⟩:∃u,decide (0≤a)=u:=⟨_,rfl⟩;obtain⟨u2,f2⟩:∃u,decide (0 < a)=u:=⟨_,rfl⟩;obtain⟨v1,f3⟩:∃u,decide (b≤0)=u:=⟨_,rfl⟩;obtain⟨v2,f4⟩:∃u,decide (b < 0)=u:=⟨_,rfl⟩;unfold sgo at hz;rw[f1,f2,f3,f4] at hz
 rcases H u1 u2 v1 v2 f1 f2 f3 f4 with ⟨rfl,rfl,rfl,rfl⟩ | ⟨rfl,rfl,rfl,rfl,rfl⟩ | ⟨rfl,rfl,rfl,rfl,rfl⟩ | ⟨rfl,rfl,rfl,rfl,rfl⟩ | ⟨rfl,rfl,rfl,rfl,rfl⟩ | ⟨rfl,rfl,rfl,rfl⟩ | ⟨rfl,rfl,rfl,rfl⟩ | ⟨rfl,rfl,rfl,rfl⟩ | ⟨rfl,rfl,rfl⟩ | ⟨rfl,rfl,rfl,rfl⟩ | ⟨rfl,rfl,rfl,rfl⟩ | ⟨rfl,rfl,rfl⟩ | ⟨rfl,rfl⟩
 all_goals
  clear H
  have HZ:=hid hz
  clear hz
  go_enter Tryz.func186,Tryz.ntmps186
  go_wp2_with fail
  generalize hA:World.alloc _ _=W0
  obtain⟨hB0,hX0,_⟩:=al_step hA nd_J
  clear hA
  have HE:=hid (Ai hX0 hB0)
  clear hB0 hX0
  iterate 3
   try
    first
     | (refine(HLo.out _ HE.out.2).mono ?_)
     | (refine(HHi.out _ HE.out.2).mono ?_)
    rintro e w1 ⟨rfl,hB⟩
    replace HE:=hid (Ai (HE.out.1.below hB) (HE.out.2.trans (hB.mono HE.out.2.size)))
    clear hB
    obtain⟨m0,m1,m2,m3,m4,m5,m6,m7,m8,_⟩:=HE.out.1.cells9
    go_wp2_with fail
    clear m0 m1 m2 m3 m4 m5 m6 m7 m8
  go_ret
  exact⟨by(rw[←HZ.out];rfl),HE.out.2⟩
theorem EOk.max{A:Nat}{x y:Int×Tq}(hx:EOk A x)(hy:EOk A y):EOk A (emax x y):=by unfold emax;split<;>assumption
theorem isFr_zero:IsFr (false,0,1):=⟨false,0,1,Nat.one_pos,by decide⟩
theorem EOk.zero{A:Nat}(hA:0 < A):EOk A (0,false,0,1):=⟨fun _=>isFr_zero,fun h=>absurd rfl h,Nat.pow_pos W32_pos,Nat.one_lt_pow (by omega) (by decide)⟩
def jsize (r:Tj):Tj:=if jsg r=-2∨jsg r=-1 then jminus r else if jsg r=3 then jmix r else r
theorem sgo_cases(x y:Bool)(a b:Int):sgo x y a b=0∨sgo x y a b=2∨sgo x y a b=1∨sgo x y a b=-2∨sgo x y a b=-1∨sgo x y a b=3:=by
 unfold sgo
 repeat' split
 all_goals simp
theorem QFit.zero:QFit (false,0,1):=⟨isFr_zero,Nat.pow_pos W32_pos,Nat.one_lt_pow (by omega) (by decide)⟩
theorem QFit.max{s t:Tq}(hs:QFit s)(ht:QFit t):QFit (qmax s t):=by unfold qmax;split<;>assumption
theorem sv_pos{t:Tq}(h:0 < sgn t.1 t.2.1):0 < sv t.1 t.2.1:=by
 unfold sgn at h;unfold sv
 split at h
 ·exact absurd h (by decide)
 case isFalse hs=>
  rw[if_neg hs]
  split at h
  ·exact absurd h (by decide)
  ·omega
theorem sv_nonneg{t:Tq}(h:¬0≤sgn t.1 t.2.1):0≤sv (fneg t).1 (fneg t).2.1:=by
 rw[sv_fneg];unfold sgn at h;unfold sv
 split at h
 case isTrue hs=>rw[if_pos hs];omega
 ·split at h<;>exact absurd (by decide) h
theorem fcmp_zero_le{t:Tq}(h:0≤sv t.1 t.2.1):fcmp (false,0,1) t≤0:=by
 rw[fcmp_nonpos];show(0:Int)*_≤sv t.1 t.2.1*((1:Nat):Int);simp;exact h
theorem jsize_low{lo hi:Tq}{x y:Bool}(h:(!x && decide (0≤sgn lo.1 lo.2.1))=true):jsize (lo,hi,x,y,false)=(lo,hi,x,y,false):=by
 have e:jsg (lo,hi,x,y,false)=0∨jsg (lo,hi,x,y,false)=2∨jsg (lo,hi,x,y,false)=1:=by
  show sgo x y (sgn lo.1 lo.2.1) (sgn hi.1 hi.2.1)=0∨sgo x y (sgn lo.1 lo.2.1) (sgn hi.1 hi.2.1)=2∨sgo x y (sgn lo.1 lo.2.1) (sgn hi.1 hi.2.1)=1;unfold sgo;rw[h];simp only[if_true]
  repeat' split
  all_goals simp
 unfold jsize
 rcases e with e | e | e<;>rw[e]<;>rfl
theorem jsize_high{lo hi:Tq}{x y:Bool}(h:(!x && decide (0≤sgn lo.1 lo.2.1))=false)(h':(!y && decide (sgn hi.1 hi.2.1≤0))=true):jsize (lo,hi,x,y,false)=jminus (lo,hi,x,y,false):=by
 have e:jsg (lo,hi,x,y,false)=-2∨jsg (lo,hi,x,y,false)=-1:=by
  show sgo x y (sgn lo.1 lo.2.1) (sgn hi.1 hi.2.1)=-2∨sgo x y (sgn lo.1 lo.2.1) (sgn hi.1 hi.2.1)=-1;unfold sgo;rw[h,h'];simp only[if_true,Bool.false_eq_true,if_false]
  split<;>simp
 unfold jsize;rw[if_pos e]
theorem jsize_mixed{lo hi:Tq}{x y:Bool}(h:(!x && decide (0≤sgn lo.1 lo.2.1))=false)(h':(!y && decide (sgn hi.1 hi.2.1≤0))=false):jsize (lo,hi,x,y,false)=jmix (lo,hi,x,y,false):=by
 have e:jsg (lo,hi,x,y,false)=3:=by
  show sgo x y (sgn lo.1 lo.2.1) (sgn hi.1 hi.2.1)=3;unfold sgo;rw[h,h'];rfl
 unfold jsize;rw[e];rfl
theorem ecmp_fin(a b:Tq):ecmp (0,a) (0,b)=fcmp a b:=by unfold ecmp;simp
theorem emax_fin(a b:Tq):emax (0,a) (0,b)=(0,qmax a b):=by
 unfold emax qmax;rw[ecmp_fin]
 split<;>rfl
theorem sgn_three(s:Bool)(n:Nat):sgn s n=-1∨sgn s n=0∨sgn s n=1:=by
 unfold sgn
 repeat' split
 all_goals simp
theorem sgn_sv{s:Bool}{n:Nat}(h:n=0→s=false):(sgn s n=-1↔sv s n < 0)∧(sgn s n=0↔sv s n=0)∧(sgn s n=1↔0 < sv s n):=by
 unfold sgn sv;cases s
 ·by_cases h0:n=0
  ·subst h0;simp
  ·have hp:(0:Int) < n:=by omega
   rw[if_neg h0];simp only[Bool.false_eq_true,if_false]
   refine⟨⟨fun h=>?_,fun h=>?_⟩,⟨fun h=>?_,fun h=>?_⟩,⟨fun h=>?_,fun h=>?_⟩⟩<;>first | exact trivial | omega
 ·have h0:n≠0:=fun e=>absurd (h e) (by decide)
  have hp:(0:Int) < n:=by omega
  simp only[if_true]
  refine⟨⟨fun h=>?_,fun h=>?_⟩,⟨fun h=>?_,fun h=>?_⟩,⟨fun h=>?_,fun h=>?_⟩⟩<;>first | exact trivial | omega
theorem sgn_mono{a b:Tq}(ha:IsFr a)(hb:IsFr b)(h:fcmp a b≤0):sgn a.1 a.2.1≤sgn b.1 b.2.1:=by
 rw[fcmp_nonpos] at h;have h1:=sgn_sv ha.zs;have h2:=sgn_sv hb.zs
 have hp:(0:Int) < a.2.2:=by have:=ha.pos;omega
 have hq:(0:Int) < b.2.2:=by have:=hb.pos;omega
 have t1:=sgn_three a.1 a.2.1;have t2:=sgn_three b.1 b.2.1;generalize sgn a.1 a.2.1=A at *;generalize sgn b.1 b.2.1=B at *;generalize sv a.1 a.2.1=x at *;generalize sv b.1 b.2.1=y at *;generalize(a.2.2:Int)=p at *;generalize(b.2.2:Int)=q at *
 have k1:y < 0→x < 0:=by
  intro hy;have e1:=Int.mul_neg_of_neg_of_pos hy hp
  by_cases hx:x < 0
  ·exact hx
  ·have e2:=Int.mul_nonneg (a:=x) (b:=q) (by omega) (by omega);omega
 have k2:y≤0→x≤0:=by
  intro hy;have e1:=Int.mul_le_mul_of_nonneg_right hy (Int.le_of_lt hp);rw[Int.zero_mul] at e1
  by_cases hx:x≤0
  ·exact hx
  ·have e2:=Int.mul_pos (a:=x) (b:=q) (by omega) hq;omega
 omega
end Go.Proofs.YtheojajaefjecaaGreatDoor
