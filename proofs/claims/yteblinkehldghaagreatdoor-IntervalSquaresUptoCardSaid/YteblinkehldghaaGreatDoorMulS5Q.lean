/- The product of two sets, of the program: the ways. -/
import Derived.Test.YteblinkehldghaaGreatDoorMulS1Q
namespace Go.Proofs.YteblinkehldghaaGreatDoor
open Go.RowKit Dg
open And renaming intro→Ai
open List renaming setIfInBounds_toArray→Sa,set_cons_zero→Sz,set_cons_succ→Sc
open Go.RowKit.Below renaming refl→Br
def CutEE (W0:World) (r1 r2:Int×Tq) (v5 v6:Value) (wx:World):Prop:=
 ∃X Y i4 s4 p4 k4 c4 q4 l4 d4 i5 s5 p5 k5 c5 q5 l5 d5,v5=.pointer (some ⟨X,0,none⟩)∧v6=.pointer (some ⟨Y,0,none⟩)∧X≠Y∧Box wx X #[.int .i64 i4,.bool s4,.slice p4 k4 c4,.slice q4 l4 d4]∧Box wx Y #[.int .i64 i5,.bool s5,.slice p5 k5 c5,.slice q5 l5 d5]∧ERep wx (.agg #[.int .i64 i4,.bool s4,.slice p4 k4 c4,.slice q4 l4 d4]) r1∧ERep wx (.agg #[.int .i64 i5,.bool s5,.slice p5 k5 c5,.slice q5 l5 d5]) r2∧Bw W0 wx∧W0.heap.size≤X∧W0.heap.size≤Y
theorem QQ.i4{w w1:World}{B B' C C':Nat}{cs cs' ds ds':List Value}(h:Box w1 B cs.toArray)(h':Box w1 B' cs'.toArray)(k:Box w1 C ds.toArray)(k':Box w1 C' ds'.toArray)(hb:Bw w w1):QQ w [(B,cs),(B',cs'),(C,ds),(C',ds')] w1:=by
 refine⟨?_,hb⟩;intro p hp
 rcases List.mem_cons.1 hp with rfl | hp
 ·exact h
 rcases List.mem_cons.1 hp with rfl | hp
 ·exact h'
 rcases List.mem_cons.1 hp with rfl | hp
 ·exact k
 rcases List.mem_cons.1 hp with rfl | hp
 ·exact k'
 exact absurd hp (by simp)
theorem ne4{B B' C C' D:Nat}{cs cs' ds ds':List Value}(h:B≠D)(h':B'≠D)(k:C≠D)(k':C'≠D):Apart [(B,cs),(B',cs'),(C,ds),(C',ds')] D:=by
 intro p hp
 rcases List.mem_cons.1 hp with rfl | hp
 ·exact h
 rcases List.mem_cons.1 hp with rfl | hp
 ·exact h'
 rcases List.mem_cons.1 hp with rfl | hp
 ·exact k
 rcases List.mem_cons.1 hp with rfl | hp
 ·exact k'
 exact absurd hp (by simp)
set_option maxHeartbeats 60000000 in
set_option maxRecDepth 100000 in
theorem stimes_5(i1 s1 p1 k1 c1 q1 l1 d1 j1 sz1 pz1 kz1 cz1 qz1 lz1 dz1 e1 i2 s2 p2 k2 c2 q2 l2 d2 j2 sz2 pz2 kz2 cz2 qz2 lz2 dz2 e2 g1 g2 g3 g4)(pea peb pec ped rl rh:Int×Tq)(r:Ts)(w:World)(hX:Hid (r=(rl,rh,false)))(f1:decide (0≤g1)=false)(f2:decide (g2≤0)=false)(f3:decide (0≤g3)=false)(f4:decide (g4≤0)=false)
  (HS1:Hid (∀W,Bw w W→Calls Tryz.prog 51 #[.agg #[.int .i64 i1,.bool s1,.slice p1 k1 c1,.slice q1 l1 d1]] W fun e w'=>e=.returned (.int .i64 g1)∧Bw W w'))
  (HS2:Hid (∀W,Bw w W→Calls Tryz.prog 51 #[.agg #[.int .i64 j1,.bool sz1,.slice pz1 kz1 cz1,.slice qz1 lz1 dz1]] W fun e w'=>e=.returned (.int .i64 g2)∧Bw W w'))
  (HS3:Hid (∀W,Bw w W→Calls Tryz.prog 51 #[.agg #[.int .i64 i2,.bool s2,.slice p2 k2 c2,.slice q2 l2 d2]] W fun e w'=>e=.returned (.int .i64 g3)∧Bw W w'))
  (HS4:Hid (∀W,Bw w W→Calls Tryz.prog 51 #[.agg #[.int .i64 j2,.bool sz2,.slice pz2 kz2 cz2,.slice qz2 lz2 dz2]] W fun e w'=>e=.returned (.int .i64 g4)∧Bw W w'))
  (HT1:Hid (∀W,Bw w W→Calls Tryz.prog 53 #[.agg #[.int .i64 i1,.bool s1,.slice p1 k1 c1,.slice q1 l1 d1],.agg #[.int .i64 j2,.bool sz2,.slice pz2 kz2 cz2,.slice qz2 lz2 dz2]] W (EP W peb)))
  (HT2:Hid (∀W,Bw w W→Calls Tryz.prog 53 #[.agg #[.int .i64 j1,.bool sz1,.slice pz1 kz1 cz1,.slice qz1 lz1 dz1],.agg #[.int .i64 i2,.bool s2,.slice p2 k2 c2,.slice q2 l2 d2]] W (EP W pec)))
  (HT3:Hid (∀W,Bw w W→Calls Tryz.prog 53 #[.agg #[.int .i64 i1,.bool s1,.slice p1 k1 c1,.slice q1 l1 d1],.agg #[.int .i64 i2,.bool s2,.slice p2 k2 c2,.slice q2 l2 d2]] W (EP W pea)))
  (HT4:Hid (∀W,Bw w W→Calls Tryz.prog 53 #[.agg #[.int .i64 j1,.bool sz1,.slice pz1 kz1 cz1,.slice qz1 lz1 dz1],.agg #[.int .i64 j2,.bool sz2,.slice pz2 kz2 cz2,.slice qz2 lz2 dz2]] W (EP W ped)))
  (HMin:Hid (∀W i4 s4 p4 k4 c4 q4 l4 d4 i5 s5 p5 k5 c5 q5 l5 d5,ERep W (.agg #[.int .i64 i4,.bool s4,.slice p4 k4 c4,.slice q4 l4 d4]) peb→ERep W (.agg #[.int .i64 i5,.bool s5,.slice p5 k5 c5,.slice q5 l5 d5]) pec→Calls Tryz.prog 54 #[.agg #[.int .i64 i4,.bool s4,.slice p4 k4 c4,.slice q4 l4 d4],.agg #[.int .i64 i5,.bool s5,.slice p5 k5 c5,.slice q5 l5 d5]] W (EP W rl)))
  (HMax:Hid (∀W i4 s4 p4 k4 c4 q4 l4 d4 i5 s5 p5 k5 c5 q5 l5 d5,ERep W (.agg #[.int .i64 i4,.bool s4,.slice p4 k4 c4,.slice q4 l4 d4]) pea→ERep W (.agg #[.int .i64 i5,.bool s5,.slice p5 k5 c5,.slice q5 l5 d5]) ped→Calls Tryz.prog 55 #[.agg #[.int .i64 i4,.bool s4,.slice p4 k4 c4,.slice q4 l4 d4],.agg #[.int .i64 i5,.bool s5,.slice p5 k5 c5,.slice q5 l5 d5]] W (EP W rh))):
  Calls Tryz.prog 22 #[.agg #[.int .i64 i1,.bool s1,.slice p1 k1 c1,.slice q1 l1 d1,.int .i64 j1,.bool sz1,.slice pz1 kz1 cz1,.slice qz1 lz1 dz1,.bool e1],.agg #[.int .i64 i2,.bool s2,.slice p2 k2 c2,.slice q2 l2 d2,.int .i64 j2,.bool sz2,.slice pz2 kz2 cz2,.slice qz2 lz2 dz2,.bool e2]] w (SP w r):=by
 go_enter Tryz.func22,Tryz.ntmps22;go_upto_region 1 with fail;generalize hA:World.alloc _ _=W0;have HV:=hid (pre3_o hA nd_S nd_S nd_S);clear hA;have HE:=hid (Ai (QQ.i2 (w:=w) (cs:=[.int .i64 i1,.bool s1,.slice p1 k1 c1,.slice q1 l1 d1,.int .i64 j1,.bool sz1,.slice pz1 kz1 cz1,.slice qz1 lz1 dz1,.bool e1]) (cs':=[.int .i64 i2,.bool s2,.slice p2 k2 c2,.slice q2 l2 d2,.int .i64 j2,.bool sz2,.slice pz2 kz2 cz2,.slice qz2 lz2 dz2,.bool e2]) HV.out.1 HV.out.2.1 HV.out.2.2.2) HV.out.2.2.1);clear HV;obtain⟨n0,n1,n2,n3,n4,n5,n6,n7,n8,_⟩:=HE.out.1.b1.cells9;go_wp2_with fail;refine(HS1.out _ HE.out.1.bel).mono ?_;rintro e w1 ⟨rfl,hB⟩;clear n0 n1 n2 n3 n4 n5 n6 n7 n8;replace HE:=hid (Ai (HE.out.1.call hB) (HE.out.2.below hB));clear hB;obtain⟨n0,n1,n2,n3,n4,n5,n6,n7,n8,_⟩:=HE.out.1.b1.cells9;go_wp2_with fail;refine(HS2.out _ HE.out.1.bel).mono ?_;rintro e w2 ⟨rfl,hB⟩;clear n0 n1 n2 n3 n4 n5 n6 n7 n8;replace HE:=hid (Ai (HE.out.1.call hB) (HE.out.2.below hB));clear hB;obtain⟨n0,n1,n2,n3,n4,n5,n6,n7,n8,_⟩:=HE.out.1.b2.cells9;go_wp2_with fail;refine(HS3.out _ HE.out.1.bel).mono ?_;rintro e w3 ⟨rfl,hB⟩;clear n0 n1 n2 n3 n4 n5 n6 n7 n8;replace HE:=hid (Ai (HE.out.1.call hB) (HE.out.2.below hB));clear hB;obtain⟨n0,n1,n2,n3,n4,n5,n6,n7,n8,_⟩:=HE.out.1.b2.cells9;go_wp2_with fail;refine(HS4.out _ HE.out.1.bel).mono ?_;rintro e w4 ⟨rfl,hB⟩;clear n0 n1 n2 n3 n4 n5 n6 n7 n8;replace HE:=hid (Ai (HE.out.1.call hB) (HE.out.2.below hB));clear hB;have hlw4:w.heap.size+1+1 < w4.heap.size:=HE.out.2.lt;go_wp2_with fail
 go_cut [5,6] from 45 to 55 (fun v5 v6 wx=>CutEE w4 peb pec v5 v6 wx)
 case first=>
  have HQ:=hid (QQ.i2 (w:=w4) (cs:=[.int .i64 i1,.bool s1,.slice p1 k1 c1,.slice q1 l1 d1,.int .i64 j1,.bool sz1,.slice pz1 kz1 cz1,.slice qz1 lz1 dz1,.bool e1]) (cs':=[.int .i64 i2,.bool s2,.slice p2 k2 c2,.slice q2 l2 d2,.int .i64 j2,.bool sz2,.slice pz2 kz2 cz2,.slice qz2 lz2 dz2,.bool e2]) HE.out.1.b1 HE.out.1.b2 (Br _ _));have HS:=hid (fun (w':World) (hb:QQ w4 [(w.heap.size,[.int .i64 i1,.bool s1,.slice p1 k1 c1,.slice q1 l1 d1,.int .i64 j1,.bool sz1,.slice pz1 kz1 cz1,.slice qz1 lz1 dz1,.bool e1]),(w.heap.size+1,[.int .i64 i2,.bool s2,.slice p2 k2 c2,.slice q2 l2 d2,.int .i64 j2,.bool sz2,.slice pz2 kz2 cz2,.slice qz2 lz2 dz2,.bool e2])] w')=>hb.s_9_9);refine wp_region_noPanic ?_;refine wp_region_held_drew (S:=(fun w'=>w'.cell? ⟨w.heap.size,0,none⟩=some (.int .i64 i1)∧w'.cell? ⟨w.heap.size,1,none⟩=some (.bool s1)∧w'.cell? ⟨w.heap.size,2,none⟩=some (.slice p1 k1 c1)∧w'.cell? ⟨w.heap.size,3,none⟩=some (.slice q1 l1 d1)∧w'.cell? ⟨w.heap.size,4,none⟩=some (.int .i64 j1)∧w'.cell? ⟨w.heap.size,5,none⟩=some (.bool sz1)∧w'.cell? ⟨w.heap.size,6,none⟩=some (.slice pz1 kz1 cz1)∧w'.cell? ⟨w.heap.size,7,none⟩=some (.slice qz1 lz1 dz1)∧w'.cell? ⟨w.heap.size,8,none⟩=some (.bool e1)∧w'.cell? ⟨w.heap.size+1,0,none⟩=some (.int .i64 i2)∧w'.cell? ⟨w.heap.size+1,1,none⟩=some (.bool s2)∧w'.cell? ⟨w.heap.size+1,2,none⟩=some (.slice p2 k2 c2)∧w'.cell? ⟨w.heap.size+1,3,none⟩=some (.slice q2 l2 d2)∧w'.cell? ⟨w.heap.size+1,4,none⟩=some (.int .i64 j2)∧w'.cell? ⟨w.heap.size+1,5,none⟩=some (.bool sz2)∧w'.cell? ⟨w.heap.size+1,6,none⟩=some (.slice pz2 kz2 cz2)∧w'.cell? ⟨w.heap.size+1,7,none⟩=some (.slice qz2 lz2 dz2)∧w'.cell? ⟨w.heap.size+1,8,none⟩=some (.bool e2)∧Hid (QQ w4 [(w.heap.size,[.int .i64 i1,.bool s1,.slice p1 k1 c1,.slice q1 l1 d1,.int .i64 j1,.bool sz1,.slice pz1 kz1 cz1,.slice qz1 lz1 dz1,.bool e1]),(w.heap.size+1,[.int .i64 i2,.bool s2,.slice p2 k2 c2,.slice q2 l2 d2,.int .i64 j2,.bool sz2,.slice pz2 kz2 cz2,.slice qz2 lz2 dz2,.bool e2])] w'))) (by kernel_rfl) (HS.out _ HQ.out.drew) (fun hHeld=>?_);refine wt (v:=?vv0) 0 rfl (.inl ⟨by rfl,?hy0⟩) ?_
  case hy0=>(intro w' hSw;(try dsimp only at hSw);go_simp;first | done | with_reducible rfl)
  simp only[Act.put];refine wt (v:=?vv1) 1 rfl (.inl ⟨by rfl,?hy1⟩) ?_
  case hy1=>(intro w' hSw;(try dsimp only at hSw);go_simp;first | done | with_reducible rfl)
  simp only[Act.put];refine wt (v:=?vv2) 2 rfl (.inl ⟨by rfl,?hy2⟩) ?_
  case hy2=>(intro w' hSw;(try dsimp only at hSw);go_simp;first | done | with_reducible rfl)
  simp only[Act.put];refine wt (v:=?vv3) 3 rfl (.inl ⟨by rfl,?hy3⟩) ?_
  case hy3=>(intro w' hSw;(try dsimp only at hSw);go_simp;first | done | with_reducible rfl)
  simp only[Act.put];refine wt (v:=?vv5) 5 rfl (.inl ⟨by rfl,?hy5⟩) ?_
  case hy5=>(intro w' hSw;(try dsimp only at hSw);go_simp;first | done | with_reducible rfl)
  simp only[Act.put];refine wt (v:=?vv6) 6 rfl (.inl ⟨by rfl,?hy6⟩) ?_
  case hy6=>(intro w' hSw;(try dsimp only at hSw);go_simp;first | done | with_reducible rfl)
  simp only[Act.put];refine wt (v:=?vv7) 7 rfl (.inl ⟨by rfl,?hy7⟩) ?_
  case hy7=>(intro w' hSw;(try dsimp only at hSw);go_simp;first | done | with_reducible rfl)
  simp only[Act.put];refine wt (v:=?vv8) 8 rfl (.inl ⟨by rfl,?hy8⟩) ?_
  case hy8=>(intro w' hSw;(try dsimp only at hSw);go_simp;first | done | with_reducible rfl)
  simp only[Act.put];have hQ:=HQ.out.drew;have hU:=QQ.nil (Br w4.heap.size w4).drew;have hS:=ES.nil w4.drew;have hz:w4.heap.size≤w4.drew.heap.size:=Nat.le_refl _;generalize w4.drew=v at *
  iterate 4
   all_goals (first | refine wr3 4 10 11 rfl rfl rfl (fun K hK=>?_) (fun K hK=>?_) (fun K hK=>?_) | refine wr3 9 10 11 rfl rfl rfl (fun K hK=>?_) (fun K hK=>?_) (fun K hK=>?_) | refine wr2 4 10 rfl rfl (fun K hK=>?_) (fun K hK=>?_) | refine wr2 4 11 rfl rfl (fun K hK=>?_) (fun K hK=>?_) | refine wr2 9 10 rfl rfl (fun K hK=>?_) (fun K hK=>?_) | refine wr2 9 11 rfl rfl (fun K hK=>?_) (fun K hK=>?_) | refine wr2 10 11 rfl rfl (fun K hK=>?_) (fun K hK=>?_) | refine wr 4 rfl (fun K hK=>?_) | refine wr 9 rfl (fun K hK=>?_) | refine wr 10 rfl (fun K hK=>?_) | refine wr 11 rfl (fun K hK=>?_))
   all_goals (go_simp;first | (go_at_call_of 53 p1;refine(HT1.out _ (HE.out.1.bel.trans (hQ.bel.mono HE.out.1.bel.size))).mono ?_;rintro e v ⟨i4,s4,p4,k4,c4,q4,l4,d4,rfl,hF,hB⟩;replace hQ:=hQ.call hB;replace hU:=hU.call hB;replace hS:=ES.c hF.out (hS.call hB);have hz:=hB.size;clear hB hF;go_wp2_with fail) | (go_at_call_of 53 pz1;refine(HT2.out _ (HE.out.1.bel.trans (hQ.bel.mono HE.out.1.bel.size))).mono ?_;rintro e v ⟨i5,s5,p5,k5,c5,q5,l5,d5,rfl,hF,hB⟩;replace hQ:=hQ.call hB;replace hU:=hU.call hB;replace hS:=ES.c hF.out (hS.call hB);have hz:=hB.size;clear hB hF;go_wp2_with fail) | (generalize hA:World.alloc _ _=v;obtain⟨hB,hb,hz⟩:=al_step hA nd_E;clear hA;replace hQ:=hQ.call hB;replace hU:=QQ.cons hb (hU.call hB);replace hS:=hS.call hB;clear hB hb))
   all_goals (refine hK.out _ _ (HS.out _ hQ) (fun hHeld=>?_);clear hK K;(try simp only[Act.put,Sa,Sz,Sc]))
  all_goals
   refine wr 12 rfl (fun K hK=>?_)
   obtain⟨x0,x1,x2,x3,x4,x5,x6,x7⟩:=hU.b1.cells4
   obtain⟨y0,y1,y2,y3,y4,y5,y6,y7⟩:=hU.b2.cells4
   go_simp
   generalize hW:World.setCell _ _ _=v
   clear x0 x1 x2 x3 x4 x5 x6 x7 y0 y1 y2 y3 y4 y5 y6 y7
   first | (obtain⟨hU,hQ,hS⟩:=ES_step1 (vs:=[.int .i64 i4,.bool s4,.slice p4 k4 c4,.slice q4 l4 d4]) hW hU hQ hS rfl nd_E (by omega) (ne2 (by omega) (by omega)) (by omega)) | (obtain⟨hU,hQ,hS⟩:=ES_step2 (vs:=[.int .i64 i4,.bool s4,.slice p4 k4 c4,.slice q4 l4 d4]) hW hU hQ hS rfl nd_E (by omega) (ne2 (by omega) (by omega)) (by omega))
   clear hW
   refine hK.out _ _ (HS.out _ hQ) (fun hHeld=>?_);clear hK K;(try simp only[Act.put,Sa,Sz,Sc])
  all_goals
   refine wr 13 rfl (fun K hK=>?_)
   obtain⟨x0,x1,x2,x3,x4,x5,x6,x7⟩:=hU.b1.cells4
   obtain⟨y0,y1,y2,y3,y4,y5,y6,y7⟩:=hU.b2.cells4
   go_simp
   generalize hW:World.setCell _ _ _=v
   clear x0 x1 x2 x3 x4 x5 x6 x7 y0 y1 y2 y3 y4 y5 y6 y7
   first | (obtain⟨hU,hQ,hS⟩:=ES_step1 (vs:=[.int .i64 i5,.bool s5,.slice p5 k5 c5,.slice q5 l5 d5]) hW hU hQ hS rfl nd_E (by omega) (ne2 (by omega) (by omega)) (by omega)) | (obtain⟨hU,hQ,hS⟩:=ES_step2 (vs:=[.int .i64 i5,.bool s5,.slice p5 k5 c5,.slice q5 l5 d5]) hW hU hQ hS rfl nd_E (by omega) (ne2 (by omega) (by omega)) (by omega))
   clear hW
   refine hK.out _ _ (HS.out _ hQ) (fun hHeld=>?_);clear hK K;(try simp only[Act.put,Sa,Sz,Sc])
  all_goals
   refine wpAnyH_done (by kernel_rfl) (NoPanic.normal ?_) _
   go_wp2_with fail
   go_meet
   first | exact⟨_,_,i4,s4,p4,k4,c4,q4,l4,d4,i5,s5,p5,k5,c5,q5,l5,d5,rfl,rfl,by omega,hU.b1,hU.b2,hS.t.h,hS.h,hU.bel,by omega,by omega⟩ | exact⟨_,_,i4,s4,p4,k4,c4,q4,l4,d4,i5,s5,p5,k5,c5,q5,l5,d5,rfl,rfl,by omega,hU.b2,hU.b1,hS.t.h,hS.h,hU.bel,by omega,by omega⟩
 case rest=>
 obtain⟨X,Y,i4,s4,p4,k4,c4,q4,l4,d4,i5,s5,p5,k5,c5,q5,l5,d5,rfl,rfl,hne,bX,bY,r1,r2,hB,hx,hy⟩:=hcut;replace HE:=hid (Ai (HE.out.1.call hB) (HE.out.2.below hB));have HF:=hid (Ai bX (Ai bY (Ai r1 r2)));have hxl:=bX.lt;have hyl:=bY.lt;clear bX bY r1 r2 hB;go_wp2_with fail
 go_cut [7,8] from 55 to 65 (fun v5 v6 wx=>CutEE wc pea ped v5 v6 wx)
 case first=>
  have HQ:=hid (QQ.i2 (w:=wc) (cs:=[.int .i64 i1,.bool s1,.slice p1 k1 c1,.slice q1 l1 d1,.int .i64 j1,.bool sz1,.slice pz1 kz1 cz1,.slice qz1 lz1 dz1,.bool e1]) (cs':=[.int .i64 i2,.bool s2,.slice p2 k2 c2,.slice q2 l2 d2,.int .i64 j2,.bool sz2,.slice pz2 kz2 cz2,.slice qz2 lz2 dz2,.bool e2]) HE.out.1.b1 HE.out.1.b2 (Br _ _));have HS:=hid (fun (w':World) (hb:QQ wc [(w.heap.size,[.int .i64 i1,.bool s1,.slice p1 k1 c1,.slice q1 l1 d1,.int .i64 j1,.bool sz1,.slice pz1 kz1 cz1,.slice qz1 lz1 dz1,.bool e1]),(w.heap.size+1,[.int .i64 i2,.bool s2,.slice p2 k2 c2,.slice q2 l2 d2,.int .i64 j2,.bool sz2,.slice pz2 kz2 cz2,.slice qz2 lz2 dz2,.bool e2])] w')=>hb.s_9_9);refine wp_region_noPanic ?_;refine wp_region_held_drew (S:=(fun w'=>w'.cell? ⟨w.heap.size,0,none⟩=some (.int .i64 i1)∧w'.cell? ⟨w.heap.size,1,none⟩=some (.bool s1)∧w'.cell? ⟨w.heap.size,2,none⟩=some (.slice p1 k1 c1)∧w'.cell? ⟨w.heap.size,3,none⟩=some (.slice q1 l1 d1)∧w'.cell? ⟨w.heap.size,4,none⟩=some (.int .i64 j1)∧w'.cell? ⟨w.heap.size,5,none⟩=some (.bool sz1)∧w'.cell? ⟨w.heap.size,6,none⟩=some (.slice pz1 kz1 cz1)∧w'.cell? ⟨w.heap.size,7,none⟩=some (.slice qz1 lz1 dz1)∧w'.cell? ⟨w.heap.size,8,none⟩=some (.bool e1)∧w'.cell? ⟨w.heap.size+1,0,none⟩=some (.int .i64 i2)∧w'.cell? ⟨w.heap.size+1,1,none⟩=some (.bool s2)∧w'.cell? ⟨w.heap.size+1,2,none⟩=some (.slice p2 k2 c2)∧w'.cell? ⟨w.heap.size+1,3,none⟩=some (.slice q2 l2 d2)∧w'.cell? ⟨w.heap.size+1,4,none⟩=some (.int .i64 j2)∧w'.cell? ⟨w.heap.size+1,5,none⟩=some (.bool sz2)∧w'.cell? ⟨w.heap.size+1,6,none⟩=some (.slice pz2 kz2 cz2)∧w'.cell? ⟨w.heap.size+1,7,none⟩=some (.slice qz2 lz2 dz2)∧w'.cell? ⟨w.heap.size+1,8,none⟩=some (.bool e2)∧Hid (QQ wc [(w.heap.size,[.int .i64 i1,.bool s1,.slice p1 k1 c1,.slice q1 l1 d1,.int .i64 j1,.bool sz1,.slice pz1 kz1 cz1,.slice qz1 lz1 dz1,.bool e1]),(w.heap.size+1,[.int .i64 i2,.bool s2,.slice p2 k2 c2,.slice q2 l2 d2,.int .i64 j2,.bool sz2,.slice pz2 kz2 cz2,.slice qz2 lz2 dz2,.bool e2])] w'))) (by kernel_rfl) (HS.out _ HQ.out.drew) (fun hHeld=>?_);refine wt (v:=?vvx0) 0 rfl (.inl ⟨by rfl,?hyx0⟩) ?_
  case hyx0=>(intro w' hSw;(try dsimp only at hSw);go_simp;first | done | with_reducible rfl)
  simp only[Act.put];refine wt (v:=?vvx1) 1 rfl (.inl ⟨by rfl,?hyx1⟩) ?_
  case hyx1=>(intro w' hSw;(try dsimp only at hSw);go_simp;first | done | with_reducible rfl)
  simp only[Act.put];refine wt (v:=?vvx2) 2 rfl (.inl ⟨by rfl,?hyx2⟩) ?_
  case hyx2=>(intro w' hSw;(try dsimp only at hSw);go_simp;first | done | with_reducible rfl)
  simp only[Act.put];refine wt (v:=?vvx3) 3 rfl (.inl ⟨by rfl,?hyx3⟩) ?_
  case hyx3=>(intro w' hSw;(try dsimp only at hSw);go_simp;first | done | with_reducible rfl)
  simp only[Act.put];refine wt (v:=?vvx5) 5 rfl (.inl ⟨by rfl,?hyx5⟩) ?_
  case hyx5=>(intro w' hSw;(try dsimp only at hSw);go_simp;first | done | with_reducible rfl)
  simp only[Act.put];refine wt (v:=?vvx6) 6 rfl (.inl ⟨by rfl,?hyx6⟩) ?_
  case hyx6=>(intro w' hSw;(try dsimp only at hSw);go_simp;first | done | with_reducible rfl)
  simp only[Act.put];refine wt (v:=?vvx7) 7 rfl (.inl ⟨by rfl,?hyx7⟩) ?_
  case hyx7=>(intro w' hSw;(try dsimp only at hSw);go_simp;first | done | with_reducible rfl)
  simp only[Act.put];refine wt (v:=?vvx8) 8 rfl (.inl ⟨by rfl,?hyx8⟩) ?_
  case hyx8=>(intro w' hSw;(try dsimp only at hSw);go_simp;first | done | with_reducible rfl)
  simp only[Act.put];have hQ:=HQ.out.drew;have hU:=QQ.nil (Br wc.heap.size wc).drew;have hS:=ES.nil wc.drew;have hz:wc.heap.size≤wc.drew.heap.size:=Nat.le_refl _;generalize wc.drew=v at *
  iterate 4
   all_goals (first | refine wr3 4 10 11 rfl rfl rfl (fun K hK=>?_) (fun K hK=>?_) (fun K hK=>?_) | refine wr3 9 10 11 rfl rfl rfl (fun K hK=>?_) (fun K hK=>?_) (fun K hK=>?_) | refine wr2 4 10 rfl rfl (fun K hK=>?_) (fun K hK=>?_) | refine wr2 4 11 rfl rfl (fun K hK=>?_) (fun K hK=>?_) | refine wr2 9 10 rfl rfl (fun K hK=>?_) (fun K hK=>?_) | refine wr2 9 11 rfl rfl (fun K hK=>?_) (fun K hK=>?_) | refine wr2 10 11 rfl rfl (fun K hK=>?_) (fun K hK=>?_) | refine wr 4 rfl (fun K hK=>?_) | refine wr 9 rfl (fun K hK=>?_) | refine wr 10 rfl (fun K hK=>?_) | refine wr 11 rfl (fun K hK=>?_))
   all_goals (go_simp;first | (go_at_call_of 53 p1;refine(HT3.out _ (HE.out.1.bel.trans (hQ.bel.mono HE.out.1.bel.size))).mono ?_;rintro e v ⟨i4,s4,p4,k4,c4,q4,l4,d4,rfl,hF,hB⟩;replace hQ:=hQ.call hB;replace hU:=hU.call hB;replace hS:=ES.c hF.out (hS.call hB);have hz:=hB.size;clear hB hF;go_wp2_with fail) | (go_at_call_of 53 pz1;refine(HT4.out _ (HE.out.1.bel.trans (hQ.bel.mono HE.out.1.bel.size))).mono ?_;rintro e v ⟨i5,s5,p5,k5,c5,q5,l5,d5,rfl,hF,hB⟩;replace hQ:=hQ.call hB;replace hU:=hU.call hB;replace hS:=ES.c hF.out (hS.call hB);have hz:=hB.size;clear hB hF;go_wp2_with fail) | (generalize hA:World.alloc _ _=v;obtain⟨hB,hb,hz⟩:=al_step hA nd_E;clear hA;replace hQ:=hQ.call hB;replace hU:=QQ.cons hb (hU.call hB);replace hS:=hS.call hB;clear hB hb))
   all_goals (refine hK.out _ _ (HS.out _ hQ) (fun hHeld=>?_);clear hK K;(try simp only[Act.put,Sa,Sz,Sc]))
  all_goals
   refine wr 12 rfl (fun K hK=>?_)
   obtain⟨x0,x1,x2,x3,x4,x5,x6,x7⟩:=hU.b1.cells4
   obtain⟨y0,y1,y2,y3,y4,y5,y6,y7⟩:=hU.b2.cells4
   go_simp
   generalize hW:World.setCell _ _ _=v
   clear x0 x1 x2 x3 x4 x5 x6 x7 y0 y1 y2 y3 y4 y5 y6 y7
   first | (obtain⟨hU,hQ,hS⟩:=ES_step1 (vs:=[.int .i64 i4,.bool s4,.slice p4 k4 c4,.slice q4 l4 d4]) hW hU hQ hS rfl nd_E (by omega) (ne2 (by omega) (by omega)) (by omega)) | (obtain⟨hU,hQ,hS⟩:=ES_step2 (vs:=[.int .i64 i4,.bool s4,.slice p4 k4 c4,.slice q4 l4 d4]) hW hU hQ hS rfl nd_E (by omega) (ne2 (by omega) (by omega)) (by omega))
   clear hW
   refine hK.out _ _ (HS.out _ hQ) (fun hHeld=>?_);clear hK K;(try simp only[Act.put,Sa,Sz,Sc])
  all_goals
   refine wr 13 rfl (fun K hK=>?_)
   obtain⟨x0,x1,x2,x3,x4,x5,x6,x7⟩:=hU.b1.cells4
   obtain⟨y0,y1,y2,y3,y4,y5,y6,y7⟩:=hU.b2.cells4
   go_simp
   generalize hW:World.setCell _ _ _=v
   clear x0 x1 x2 x3 x4 x5 x6 x7 y0 y1 y2 y3 y4 y5 y6 y7
   first | (obtain⟨hU,hQ,hS⟩:=ES_step1 (vs:=[.int .i64 i5,.bool s5,.slice p5 k5 c5,.slice q5 l5 d5]) hW hU hQ hS rfl nd_E (by omega) (ne2 (by omega) (by omega)) (by omega)) | (obtain⟨hU,hQ,hS⟩:=ES_step2 (vs:=[.int .i64 i5,.bool s5,.slice p5 k5 c5,.slice q5 l5 d5]) hW hU hQ hS rfl nd_E (by omega) (ne2 (by omega) (by omega)) (by omega))
   clear hW
   refine hK.out _ _ (HS.out _ hQ) (fun hHeld=>?_);clear hK K;(try simp only[Act.put,Sa,Sz,Sc])
  all_goals
   refine wpAnyH_done (by kernel_rfl) (NoPanic.normal ?_) _
   go_wp2_with fail
   go_meet
   first | exact⟨_,_,i4,s4,p4,k4,c4,q4,l4,d4,i5,s5,p5,k5,c5,q5,l5,d5,rfl,rfl,by omega,hU.b1,hU.b2,hS.t.h,hS.h,hU.bel,by omega,by omega⟩ | exact⟨_,_,i4,s4,p4,k4,c4,q4,l4,d4,i5,s5,p5,k5,c5,q5,l5,d5,rfl,rfl,by omega,hU.b2,hU.b1,hS.t.h,hS.h,hU.bel,by omega,by omega⟩
 case rest=>
 obtain⟨X2,Y2,i6,s6,p6,k6,c6,q6,l6,d6,i7,s7,p7,k7,c7,q7,l7,d7,rfl,rfl,hne2,bX,bY,r1,r2,hB,hx2,hy2⟩:=hcut;have HG:=hid (Ai (HF.out.1.below hB) (Ai (HF.out.2.1.below hB) (Ai (HF.out.2.2.1.below hB) (Ai (HF.out.2.2.2.below hB) (Ai r1 r2)))));replace HE:=hid (Ai (HE.out.1.call hB) (HE.out.2.below hB));have HQ:=hid (QQ.i4 (w:=w) (cs:=[.int .i64 i4,.bool s4,.slice p4 k4 c4,.slice q4 l4 d4]) (cs':=[.int .i64 i5,.bool s5,.slice p5 k5 c5,.slice q5 l5 d5]) (ds:=[.int .i64 i6,.bool s6,.slice p6 k6 c6,.slice q6 l6 d6]) (ds':=[.int .i64 i7,.bool s7,.slice p7 k7 c7,.slice q7 l7 d7]) HG.out.1 HG.out.2.1 bX bY HE.out.1.bel);have hxl2:=bX.lt;have hyl2:=bY.lt;clear HF bX bY r1 r2 hB;have HS:=hid (fun (w':World) (hb:QQ w [(X,[.int .i64 i4,.bool s4,.slice p4 k4 c4,.slice q4 l4 d4]),(Y,[.int .i64 i5,.bool s5,.slice p5 k5 c5,.slice q5 l5 d5]),(X2,[.int .i64 i6,.bool s6,.slice p6 k6 c6,.slice q6 l6 d6]),(Y2,[.int .i64 i7,.bool s7,.slice p7 k7 c7,.slice q7 l7 d7])] w')=>hb.s_4_4_4_4);have hres:=HE.out.2.lt;have HN:Hid (Apart [(X,[.int .i64 i4,.bool s4,.slice p4 k4 c4,.slice q4 l4 d4]),(Y,[.int .i64 i5,.bool s5,.slice p5 k5 c5,.slice q5 l5 d5]),(X2,[.int .i64 i6,.bool s6,.slice p6 k6 c6,.slice q6 l6 d6]),(Y2,[.int .i64 i7,.bool s7,.slice p7 k7 c7,.slice q7 l7 d7])] (w.heap.size+1+1)):=hid (ne4 (by omega) (by omega) (by omega) (by omega));have HI:Hid (w.heap.size≤w.heap.size+1+1):=hid (by omega);go_wp2_with fail
 go_region_held3 (fun w'=>w'.cell? ⟨X,0,none⟩=some (.int .i64 i4)∧w'.cell? ⟨X,1,none⟩=some (.bool s4)∧w'.cell? ⟨X,2,none⟩=some (.slice p4 k4 c4)∧w'.cell? ⟨X,3,none⟩=some (.slice q4 l4 d4)∧w'.cell? ⟨Y,0,none⟩=some (.int .i64 i5)∧w'.cell? ⟨Y,1,none⟩=some (.bool s5)∧w'.cell? ⟨Y,2,none⟩=some (.slice p5 k5 c5)∧w'.cell? ⟨Y,3,none⟩=some (.slice q5 l5 d5)∧w'.cell? ⟨X2,0,none⟩=some (.int .i64 i6)∧w'.cell? ⟨X2,1,none⟩=some (.bool s6)∧w'.cell? ⟨X2,2,none⟩=some (.slice p6 k6 c6)∧w'.cell? ⟨X2,3,none⟩=some (.slice q6 l6 d6)∧w'.cell? ⟨Y2,0,none⟩=some (.int .i64 i7)∧w'.cell? ⟨Y2,1,none⟩=some (.bool s7)∧w'.cell? ⟨Y2,2,none⟩=some (.slice p7 k7 c7)∧w'.cell? ⟨Y2,3,none⟩=some (.slice q7 l7 d7)∧Hid (QQ w [(X,[.int .i64 i4,.bool s4,.slice p4 k4 c4,.slice q4 l4 d4]),(Y,[.int .i64 i5,.bool s5,.slice p5 k5 c5,.slice q5 l5 d5]),(X2,[.int .i64 i6,.bool s6,.slice p6 k6 c6,.slice q6 l6 d6]),(Y2,[.int .i64 i7,.bool s7,.slice p7 k7 c7,.slice q7 l7 d7])] w'))
  (first | (refine HS.out _ ?_;first | (with_reducible exact HQ.out.drew) | (with_reducible assumption) | (with_reducible refine QQ.st9 ?_ HN.out HI.out;assumption)))
  (first
   | (go_at_call 54;refine(HMin.out _ i4 s4 p4 k4 c4 q4 l4 d4 i5 s5 p5 k5 c5 q5 l5 d5 (HG.out.2.2.1.below (Br _ _).drew) (HG.out.2.2.2.1.below (Br _ _).drew)).mono ?_;rintro e wa ⟨i8,s8,p8,k8,c8,q8,l8,d8,rfl,hE1,hB1⟩;have hQ1:=HQ.out.drew.call hB1;have hV1:=(HE.out.2.drew).below hB1)
   | (go_at_call 55;refine(HMax.out _ i6 s6 p6 k6 c6 q6 l6 d6 i7 s7 p7 k7 c7 q7 l7 d7 ((HG.out.2.2.2.2.1.below (Br _ _).drew).below hB1) ((HG.out.2.2.2.2.2.below (Br _ _).drew).below hB1)).mono ?_;rintro e wb ⟨i9,s9,p9,k9,c9,q9,l9,d9,rfl,hE2,hB2⟩;have hQ2:=hQ1.call hB2;have hV2:=hV1.below hB2;obtain⟨g0,g1,g2,g3,g4,g5,g6,g7,g8,f0,f1,f2,f3,f4,f5,f6,f7,f8⟩:=hV2.cells9))
 rename_i hHeld
 clear hHeld;have HH:=hid (Ai hV2 (Ai (hE1.out.below hB2) (Ai hE2.out hQ2.bel)));clear hQ1 hQ2 hV1 hV2 hB1 hB2 hE1 hE2;go_wp2_with fail;exact stimes_ret rfl (HH.out.1.stores [.int .i64 i8,.bool s8,.slice p8 k8 c8,.slice q8 l8 d8,.int .i64 i9,.bool s9,.slice p9 k9 c9,.slice q9 l9 d9,.bool false] rfl nd_S) ⟨_,_,_,_,_,_,_,_,_,_,_,_,_,_,_,_,_,rfl,hid ⟨_,_,_,_,_,_,_,_,_,_,_,_,_,_,_,_,_,rfl,by rw[hX.out];exact ERep.stores (k:=0) (l:=[.int .i64 i8,.bool s8,.slice p8 k8 c8,.slice q8 l8 d8,.int .i64 i9,.bool s9,.slice p9 k9 c9,.slice q9 l9 d9,.bool false]) HH.out.2.1 HH.out.1 nd_S,by rw[hX.out];exact ERep.stores (k:=0) (l:=[.int .i64 i8,.bool s8,.slice p8 k8 c8,.slice q8 l8 d8,.int .i64 i9,.bool s9,.slice p9 k9 c9,.slice q9 l9 d9,.bool false]) HH.out.2.2.1 HH.out.1 nd_S,by rw[hX.out]⟩,Below.stores (k:=0) (l:=[.int .i64 i8,.bool s8,.slice p8 k8 c8,.slice q8 l8 d8,.int .i64 i9,.bool s9,.slice p9 k9 c9,.slice q9 l9 d9,.bool false]) HH.out.2.2.2 (by omega)⟩
end Go.Proofs.YteblinkehldghaaGreatDoor
