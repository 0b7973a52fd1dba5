/- The product of two sets, of the program. -/
import Derived.Test.YteblinkehldghaaGreatDoorAbsIQ
import Derived.Test.YteblinkehldghaaGreatDoorMulMQ
import Derived.Test.YteblinkehldghaaGreatDoorAbsI
namespace Go.Proofs.YteblinkehldghaaGreatDoor
open Go.RowKit Dg
open And renaming intro→Ai
open List renaming setIfInBounds_toArray→Sa,set_cons_zero→Sz,set_cons_succ→Sc
def CutTwo (W0:World) (L1 L2:List Value) (v5 v6:Value) (wx:World):Prop:=
 ∃X Y,v5=.pointer (some ⟨X,0,none⟩)∧v6=.pointer (some ⟨Y,0,none⟩)∧X≠Y∧Box wx X L1.toArray∧Box wx Y L2.toArray∧Bw W0 wx∧W0.heap.size≤X∧W0.heap.size≤Y
def ES (W:World) (l:List (Value×(Int×Tq))):Prop:=∀p,p ∈ l→ERep W p.1 p.2
theorem ES.nil(W:World):ES W []:=fun _ h=>absurd h (by simp)
theorem ES.c{W:World}{v:Value}{x:(Int×Tq)}{l:List (Value×(Int×Tq))}(h:ERep W v x)(hl:ES W l):ES W ((v,x)::l):=by
 intro p hp
 rcases List.mem_cons.1 hp with rfl | hp
 ·exact h
 ·exact hl p hp
theorem ES.h{W:World}{v:Value}{x:(Int×Tq)}{l:List (Value×(Int×Tq))}(h:ES W ((v,x)::l)):ERep W v x:=h _ List.mem_cons_self
theorem ES.t{W:World}{p:Value×(Int×Tq)}{l:List (Value×(Int×Tq))}(h:ES W (p::l)):ES W l:=fun q hq=>h q (List.mem_cons_of_mem _ hq)
theorem ES.call{W W':World}{l:List (Value×(Int×Tq))}(h:ES W l)(hb:Bw W W'):ES W' l:=fun p hp=>(h p hp).below hb
theorem ES_step1{w0 w w':World}{l:List (Nat×List Value)}{B C:Nat}{cs ds vs:List Value}{F:List (Value×(Int×Tq))}(hW:stores w B 0 vs=w')(hU:QQ w0 [(B,cs),(C,ds)] w)(hQ:QQ w0 l w)(hS:ES w F)(hl:vs.length=cs.length)(hn:NDs vs)(hne:C≠B)(ha:Apart l B)(hle:w0.heap.size≤B):QQ w0 [(B,vs),(C,ds)] w'∧QQ w0 l w'∧ES w' F:=
 ⟨hU.put1 hW hl hn hne hle,by rw[←hW];exact hQ.stores ha hle,fun p hp=>by rw[←hW];exact(hS p hp).stores hU.b1 hn⟩
theorem ES_step2{w0 w w':World}{l:List (Nat×List Value)}{B C:Nat}{cs ds vs:List Value}{F:List (Value×(Int×Tq))}(hW:stores w B 0 vs=w')(hU:QQ w0 [(C,ds),(B,cs)] w)(hQ:QQ w0 l w)(hS:ES w F)(hl:vs.length=cs.length)(hn:NDs vs)(hne:C≠B)(ha:Apart l B)(hle:w0.heap.size≤B):QQ w0 [(C,ds),(B,vs)] w'∧QQ w0 l w'∧ES w' F:=
 ⟨hU.put2 hW hl hn hne hle,by rw[←hW];exact hQ.stores ha hle,fun p hp=>by rw[←hW];exact(hS p hp).stores hU.b2 hn⟩
theorem scale_ret{W:World}{B:Nat}{a0 a1 a2 a3 a4 a5 a6 a7 a8:Value}{tm:Array Value}{R:Ending→World→Prop}(h2:tm[4]?.getD undef=.pointer (some ⟨B,0,none⟩))(hV:Box W B #[a0,a1,a2,a3,a4,a5,a6,a7,a8])(hR:R (.returned (.agg #[a0,a1,a2,a3,a4,a5,a6,a7,a8])) W):
  bodyPost Tryz.prog Tryz.f52 R .ret {tmps:=tm,defers:=[]} W:=by
 obtain⟨g0,g1,g2,g3,g4,g5,g6,g7,g8,_⟩:=hV.cells9;exact bodyPost_ret (v:=.agg #[a0,a1,a2,a3,a4,a5,a6,a7,a8]) (by simp [results,Tryz.results52,go_sem,h2,g0,g1,g2,g3,g4,g5,g6,g7,g8]) rfl hR
theorem stimes_ret{W:World}{B:Nat}{a0 a1 a2 a3 a4 a5 a6 a7 a8:Value}{tm:Array Value}{R:Ending→World→Prop}(h2:tm[4]?.getD undef=.pointer (some ⟨B,0,none⟩))(hV:Box W B #[a0,a1,a2,a3,a4,a5,a6,a7,a8])(hR:R (.returned (.agg #[a0,a1,a2,a3,a4,a5,a6,a7,a8])) W):
  bodyPost Tryz.prog Tryz.f22 R .ret {tmps:=tm,defers:=[]} W:=by
 obtain⟨g0,g1,g2,g3,g4,g5,g6,g7,g8,_⟩:=hV.cells9;exact bodyPost_ret (v:=.agg #[a0,a1,a2,a3,a4,a5,a6,a7,a8]) (by simp [results,Tryz.results22,go_sem,h2,g0,g1,g2,g3,g4,g5,g6,g7,g8]) rfl hR
set_option maxHeartbeats 60000000 in
set_option maxRecDepth 100000 in
theorem scale_gen(i1 s1 p1 k1 c1 q1 l1 d1 j1 sz1 pz1 kz1 cz1 qz1 lz1 dz1 e1 i2 s2 p2 k2 c2 q2 l2 d2 j2 sz2 pz2 kz2 cz2 qz2 lz2 dz2 e2)(b1 b2:Bool)(g1 g2)(xl xh r1 r2:Int×Tq)(r:Ts)(w:World)(hX:Hid (r=(r1,r2,false)))(f1:decide (0 < g1)=b1)(f2:decide (g2 < 0)=b2)
  (HR:Hid (∀W,Bw w W→ERep W (.agg #[.int .i64 i1,.bool s1,.slice p1 k1 c1,.slice q1 l1 d1]) xl∧ERep W (.agg #[.int .i64 j1,.bool sz1,.slice pz1 kz1 cz1,.slice qz1 lz1 dz1]) xh))
  (HS1:Hid (∀W,Bw w W→Calls Tryz.prog 51 #[.agg #[.int .i64 i2,.bool s2,.slice p2 k2 c2,.slice q2 l2 d2]] W fun e w'=>e=.returned (.int .i64 g1)∧Bw W w'))
  (HS2:Hid (∀W,Bw w W→Calls Tryz.prog 51 #[.agg #[.int .i64 j2,.bool sz2,.slice pz2 kz2 cz2,.slice qz2 lz2 dz2]] W fun e w'=>e=.returned (.int .i64 g2)∧Bw W w'))
  (HL:Hid (∀W i8 s8 p8 k8 c8 q8 l8 d8,Bw w W→ERep W (.agg #[.int .i64 i8,.bool s8,.slice p8 k8 c8,.slice q8 l8 d8]) (if b1 then xl else xh)→Calls Tryz.prog 53 #[.agg #[.int .i64 i8,.bool s8,.slice p8 k8 c8,.slice q8 l8 d8],.agg #[.int .i64 i2,.bool s2,.slice p2 k2 c2,.slice q2 l2 d2]] W (EP W r1)))
  (HH:Hid (∀W i8 s8 p8 k8 c8 q8 l8 d8,Bw w W→ERep W (.agg #[.int .i64 i8,.bool s8,.slice p8 k8 c8,.slice q8 l8 d8]) (if b2 then xl else xh)→Calls Tryz.prog 53 #[.agg #[.int .i64 i8,.bool s8,.slice p8 k8 c8,.slice q8 l8 d8],.agg #[.int .i64 j2,.bool sz2,.slice pz2 kz2 cz2,.slice qz2 lz2 dz2]] W (EP W r2))):
  Calls Tryz.prog 52 #[.agg #[.int .i64 i1,.bool s1,.slice p1 k1 c1,.slice q1 l1 d1,.int .i64 j1,.bool sz1,.slice pz1 kz1 cz1,.slice qz1 lz1 dz1,.bool e1],.agg #[.int .i64 i2,.bool s2,.slice p2 k2 c2,.slice q2 l2 d2,.int .i64 j2,.bool sz2,.slice pz2 kz2 cz2,.slice qz2 lz2 dz2,.bool e2]] w (SP w r):=by
 go_enter Tryz.func52,Tryz.ntmps52;go_upto_region 1 with fail;generalize hA:World.alloc _ _=W0;have HV:=hid (pre3_o hA nd_S nd_S nd_S);clear hA;have hW0:w.heap.size+1+1 < W0.heap.size:=HV.out.2.2.1.lt
 go_cut [5,6] from 7 to 11 (fun v5 v6 wx=>CutTwo W0 [.int .i64 j1,.bool sz1,.slice pz1 kz1 cz1,.slice qz1 lz1 dz1] [.int .i64 j1,.bool sz1,.slice pz1 kz1 cz1,.slice qz1 lz1 dz1] v5 v6 wx)
 case first=>
  have HQ:=hid (QQ.i2 (w:=W0) (cs:=[.int .i64 i1,.bool s1,.slice p1 k1 c1,.slice q1 l1 d1,.int .i64 j1,.bool sz1,.slice pz1 kz1 cz1,.slice qz1 lz1 dz1,.bool e1]) (cs':=[.int .i64 i2,.bool s2,.slice p2 k2 c2,.slice q2 l2 d2,.int .i64 j2,.bool sz2,.slice pz2 kz2 cz2,.slice qz2 lz2 dz2,.bool e2]) HV.out.1 HV.out.2.1 (Below.refl _ _));have HS:=hid (fun (w':World) (hb:QQ W0 [(w.heap.size,[.int .i64 i1,.bool s1,.slice p1 k1 c1,.slice q1 l1 d1,.int .i64 j1,.bool sz1,.slice pz1 kz1 cz1,.slice qz1 lz1 dz1,.bool e1]),(w.heap.size+1,[.int .i64 i2,.bool s2,.slice p2 k2 c2,.slice q2 l2 d2,.int .i64 j2,.bool sz2,.slice pz2 kz2 cz2,.slice qz2 lz2 dz2,.bool e2])] w')=>hb.s_9_9);refine wp_region_noPanic ?_;refine wp_region_held_drew (S:=(fun w'=>w'.cell? ⟨w.heap.size,0,none⟩=some (.int .i64 i1)∧w'.cell? ⟨w.heap.size,1,none⟩=some (.bool s1)∧w'.cell? ⟨w.heap.size,2,none⟩=some (.slice p1 k1 c1)∧w'.cell? ⟨w.heap.size,3,none⟩=some (.slice q1 l1 d1)∧w'.cell? ⟨w.heap.size,4,none⟩=some (.int .i64 j1)∧w'.cell? ⟨w.heap.size,5,none⟩=some (.bool sz1)∧w'.cell? ⟨w.heap.size,6,none⟩=some (.slice pz1 kz1 cz1)∧w'.cell? ⟨w.heap.size,7,none⟩=some (.slice qz1 lz1 dz1)∧w'.cell? ⟨w.heap.size,8,none⟩=some (.bool e1)∧w'.cell? ⟨w.heap.size+1,0,none⟩=some (.int .i64 i2)∧w'.cell? ⟨w.heap.size+1,1,none⟩=some (.bool s2)∧w'.cell? ⟨w.heap.size+1,2,none⟩=some (.slice p2 k2 c2)∧w'.cell? ⟨w.heap.size+1,3,none⟩=some (.slice q2 l2 d2)∧w'.cell? ⟨w.heap.size+1,4,none⟩=some (.int .i64 j2)∧w'.cell? ⟨w.heap.size+1,5,none⟩=some (.bool sz2)∧w'.cell? ⟨w.heap.size+1,6,none⟩=some (.slice pz2 kz2 cz2)∧w'.cell? ⟨w.heap.size+1,7,none⟩=some (.slice qz2 lz2 dz2)∧w'.cell? ⟨w.heap.size+1,8,none⟩=some (.bool e2)∧Hid (QQ W0 [(w.heap.size,[.int .i64 i1,.bool s1,.slice p1 k1 c1,.slice q1 l1 d1,.int .i64 j1,.bool sz1,.slice pz1 kz1 cz1,.slice qz1 lz1 dz1,.bool e1]),(w.heap.size+1,[.int .i64 i2,.bool s2,.slice p2 k2 c2,.slice q2 l2 d2,.int .i64 j2,.bool sz2,.slice pz2 kz2 cz2,.slice qz2 lz2 dz2,.bool e2])] w'))) (by kernel_rfl) (HS.out _ HQ.out.drew) (fun hHeld=>?_);refine wt (v:=?vv0) 0 rfl (.inl ⟨by rfl,?hy0⟩) ?_
  case hy0=>(intro w' hSw;(try dsimp only at hSw);go_simp;first | done | with_reducible rfl)
  simp only[Act.put];refine wt (v:=?vv1) 1 rfl (.inl ⟨by rfl,?hy1⟩) ?_
  case hy1=>(intro w' hSw;(try dsimp only at hSw);go_simp;first | done | with_reducible rfl)
  simp only[Act.put];refine wt (v:=?vv2) 2 rfl (.inl ⟨by rfl,?hy2⟩) ?_
  case hy2=>(intro w' hSw;(try dsimp only at hSw);go_simp;first | done | with_reducible rfl)
  simp only[Act.put];refine wt (v:=?vv3) 3 rfl (.inl ⟨by rfl,?hy3⟩) ?_
  case hy3=>(intro w' hSw;(try dsimp only at hSw);go_simp;first | done | with_reducible rfl)
  simp only[Act.put];have hQ:=HQ.out.drew;have hU:=QQ.nil (Below.refl W0.heap.size W0).drew;have hS:=ES.nil W0.drew;have hz:W0.heap.size≤W0.drew.heap.size:=Nat.le_refl _;generalize W0.drew=v at *
  iterate 2
   all_goals (first | refine wr2 4 5 rfl rfl (fun K hK=>?_) (fun K hK=>?_) | refine wr 4 rfl (fun K hK=>?_) | refine wr 5 rfl (fun K hK=>?_))
   all_goals (go_simp;first | (generalize hA:World.alloc _ _=v;obtain⟨hB,hb,hz⟩:=al_step hA nd_E;clear hA;replace hQ:=hQ.call hB;replace hU:=QQ.cons hb (hU.call hB);replace hS:=hS.call hB;clear hB hb))
   all_goals (refine hK.out _ _ (HS.out _ hQ) (fun hHeld=>?_);clear hK K;(try simp only[Act.put,Sa,Sz,Sc]))
  all_goals
   refine wr 6 rfl (fun K hK=>?_)
   obtain⟨x0,x1,x2,x3,x4,x5,x6,x7⟩:=hU.b1.cells4
   obtain⟨y0,y1,y2,y3,y4,y5,y6,y7⟩:=hU.b2.cells4
   go_simp
   generalize hW:World.setCell _ _ _=v
   clear x0 x1 x2 x3 x4 x5 x6 x7 y0 y1 y2 y3 y4 y5 y6 y7
   first | (obtain⟨hU,hQ,hS⟩:=ES_step1 (vs:=[.int .i64 j1,.bool sz1,.slice pz1 kz1 cz1,.slice qz1 lz1 dz1]) hW hU hQ hS rfl nd_E (by omega) (ne2 (by omega) (by omega)) (by omega)) | (obtain⟨hU,hQ,hS⟩:=ES_step2 (vs:=[.int .i64 j1,.bool sz1,.slice pz1 kz1 cz1,.slice qz1 lz1 dz1]) hW hU hQ hS rfl nd_E (by omega) (ne2 (by omega) (by omega)) (by omega))
   clear hW
   refine hK.out _ _ (HS.out _ hQ) (fun hHeld=>?_);clear hK K;(try simp only[Act.put,Sa,Sz,Sc])
  all_goals
   refine wr 7 rfl (fun K hK=>?_)
   obtain⟨x0,x1,x2,x3,x4,x5,x6,x7⟩:=hU.b1.cells4
   obtain⟨y0,y1,y2,y3,y4,y5,y6,y7⟩:=hU.b2.cells4
   go_simp
   generalize hW:World.setCell _ _ _=v
   clear x0 x1 x2 x3 x4 x5 x6 x7 y0 y1 y2 y3 y4 y5 y6 y7
   first | (obtain⟨hU,hQ,hS⟩:=ES_step1 (vs:=[.int .i64 j1,.bool sz1,.slice pz1 kz1 cz1,.slice qz1 lz1 dz1]) hW hU hQ hS rfl nd_E (by omega) (ne2 (by omega) (by omega)) (by omega)) | (obtain⟨hU,hQ,hS⟩:=ES_step2 (vs:=[.int .i64 j1,.bool sz1,.slice pz1 kz1 cz1,.slice qz1 lz1 dz1]) hW hU hQ hS rfl nd_E (by omega) (ne2 (by omega) (by omega)) (by omega))
   clear hW
   refine hK.out _ _ (HS.out _ hQ) (fun hHeld=>?_);clear hK K;(try simp only[Act.put,Sa,Sz,Sc])
  all_goals
   refine wpAnyH_done (by kernel_rfl) (NoPanic.normal ?_) _
   go_wp2_with fail
   go_meet
   first | exact⟨_,_,rfl,rfl,by omega,hU.b1,hU.b2,hU.bel,by omega,by omega⟩ | exact⟨_,_,rfl,rfl,by omega,hU.b2,hU.b1,hU.bel,by omega,by omega⟩
 case rest=>
 obtain⟨X,Y,rfl,rfl,hne,bX,bY,hB,hx,hy⟩:=hcut;have HE:=hid (Ai (QQ.i2 (w:=w) (cs:=[.int .i64 i1,.bool s1,.slice p1 k1 c1,.slice q1 l1 d1,.int .i64 j1,.bool sz1,.slice pz1 kz1 cz1,.slice qz1 lz1 dz1,.bool e1]) (cs':=[.int .i64 i2,.bool s2,.slice p2 k2 c2,.slice q2 l2 d2,.int .i64 j2,.bool sz2,.slice pz2 kz2 cz2,.slice qz2 lz2 dz2,.bool e2]) (HV.out.1.below hB) (HV.out.2.1.below hB) (HV.out.2.2.2.trans (hB.mono HV.out.2.2.2.size))) (Ai (HV.out.2.2.1.below hB) (Ai bX bY)));clear hB bX bY HV;obtain⟨n0,n1,n2,n3,n4,n5,n6,n7,n8,_⟩:=HE.out.1.b2.cells9;go_wp2_with fail;refine(HS1.out _ HE.out.1.bel).mono ?_;rintro e wk ⟨rfl,hB⟩;replace HE:=hid (Ai (HE.out.1.call hB) (Ai (HE.out.2.1.below hB) (Ai (HE.out.2.2.1.below hB) (HE.out.2.2.2.below hB))));clear hB n0 n1 n2 n3 n4 n5 n6 n7 n8;go_upto_if 14 with fail
 go_cut [] from 15 to 16 (fun wx=>∃i8 s8 p8 k8 c8 q8 l8 d8,QQ w [(w.heap.size,[.int .i64 i1,.bool s1,.slice p1 k1 c1,.slice q1 l1 d1,.int .i64 j1,.bool sz1,.slice pz1 kz1 cz1,.slice qz1 lz1 dz1,.bool e1]),(w.heap.size+1,[.int .i64 i2,.bool s2,.slice p2 k2 c2,.slice q2 l2 d2,.int .i64 j2,.bool sz2,.slice pz2 kz2 cz2,.slice qz2 lz2 dz2,.bool e2])] wx∧Box wx (w.heap.size+1+1) #[.int .i64 0,.bool false,.slice none 0 0,.slice none 0 0,.int .i64 0,.bool false,.slice none 0 0,.slice none 0 0,.bool false]∧Box wx X #[.int .i64 i8,.bool s8,.slice p8 k8 c8,.slice q8 l8 d8]∧Box wx Y #[.int .i64 j1,.bool sz1,.slice pz1 kz1 cz1,.slice qz1 lz1 dz1]∧ERep wx (.agg #[.int .i64 i8,.bool s8,.slice p8 k8 c8,.slice q8 l8 d8]) (if b1 then xl else xh))
 case first=>
  cases b1
  ·go_wp2_with fail
   go_meet
   exact⟨j1,sz1,pz1,kz1,cz1,qz1,lz1,dz1,HE.out.1,HE.out.2.1,HE.out.2.2.1,HE.out.2.2.2,(HR.out _ HE.out.1.bel).2⟩
  ·obtain⟨m0,m1,m2,m3,m4,m5,m6,m7,m8,_⟩:=HE.out.1.b1.cells9;obtain⟨x0,x1,x2,x3,y0,y1,y2,y3⟩:=HE.out.2.2.1.cells4;go_wp2_with fail
   go_meet
   exact⟨i1,s1,p1,k1,c1,q1,l1,d1,(HE.out.1.stores (B:=X) (k:=0) (vs:=[.int .i64 i1,.bool s1,.slice p1 k1 c1,.slice q1 l1 d1]) (ne2 (by omega) (by omega)) (by omega)),(Box.stores_other (C:=X) (k:=0) (l:=[.int .i64 i1,.bool s1,.slice p1 k1 c1,.slice q1 l1 d1]) HE.out.2.1 (by omega)),HE.out.2.2.1.stores [.int .i64 i1,.bool s1,.slice p1 k1 c1,.slice q1 l1 d1] rfl nd_E,(Box.stores_other (C:=X) (k:=0) (l:=[.int .i64 i1,.bool s1,.slice p1 k1 c1,.slice q1 l1 d1]) HE.out.2.2.2 (by omega)),ERep.stores (k:=0) (l:=[.int .i64 i1,.bool s1,.slice p1 k1 c1,.slice q1 l1 d1]) (HR.out _ HE.out.1.bel).1 HE.out.2.2.1 nd_E⟩
 case rest=>
 obtain⟨i8,s8,p8,k8,c8,q8,l8,d8,k1',k2',k3',k4',k5'⟩:=hcut;replace HE:=hid (Ai k1' (Ai k2' (Ai k3' (Ai k4' k5'))));clear k1' k2' k3' k4' k5';obtain⟨n0,n1,n2,n3,n4,n5,n6,n7,n8,_⟩:=HE.out.1.b2.cells9;go_wp2_with fail;refine(HS2.out _ HE.out.1.bel).mono ?_;rintro e wk ⟨rfl,hB⟩;replace HE:=hid (Ai (HE.out.1.call hB) (Ai (HE.out.2.1.below hB) (Ai (HE.out.2.2.1.below hB) (Ai (HE.out.2.2.2.1.below hB) (HE.out.2.2.2.2.below hB)))));clear hB n0 n1 n2 n3 n4 n5 n6 n7 n8;go_upto_if 20 with fail
 go_cut [] from 21 to 22 (fun wx=>∃i9 s9 p9 k9 c9 q9 l9 d9,QQ w [(w.heap.size,[.int .i64 i1,.bool s1,.slice p1 k1 c1,.slice q1 l1 d1,.int .i64 j1,.bool sz1,.slice pz1 kz1 cz1,.slice qz1 lz1 dz1,.bool e1]),(w.heap.size+1,[.int .i64 i2,.bool s2,.slice p2 k2 c2,.slice q2 l2 d2,.int .i64 j2,.bool sz2,.slice pz2 kz2 cz2,.slice qz2 lz2 dz2,.bool e2])] wx∧Box wx (w.heap.size+1+1) #[.int .i64 0,.bool false,.slice none 0 0,.slice none 0 0,.int .i64 0,.bool false,.slice none 0 0,.slice none 0 0,.bool false]∧Box wx X #[.int .i64 i8,.bool s8,.slice p8 k8 c8,.slice q8 l8 d8]∧Box wx Y #[.int .i64 i9,.bool s9,.slice p9 k9 c9,.slice q9 l9 d9]∧ERep wx (.agg #[.int .i64 i8,.bool s8,.slice p8 k8 c8,.slice q8 l8 d8]) (if b1 then xl else xh)∧ERep wx (.agg #[.int .i64 i9,.bool s9,.slice p9 k9 c9,.slice q9 l9 d9]) (if b2 then xl else xh))
 case first=>
  cases b2
  ·go_wp2_with fail
   go_meet
   exact⟨j1,sz1,pz1,kz1,cz1,qz1,lz1,dz1,HE.out.1,HE.out.2.1,HE.out.2.2.1,HE.out.2.2.2.1,HE.out.2.2.2.2,(HR.out _ HE.out.1.bel).2⟩
  ·obtain⟨m0,m1,m2,m3,m4,m5,m6,m7,m8,_⟩:=HE.out.1.b1.cells9;obtain⟨x0,x1,x2,x3,y0,y1,y2,y3⟩:=HE.out.2.2.2.1.cells4;go_wp2_with fail
   go_meet
   exact⟨i1,s1,p1,k1,c1,q1,l1,d1,(HE.out.1.stores (B:=Y) (k:=0) (vs:=[.int .i64 i1,.bool s1,.slice p1 k1 c1,.slice q1 l1 d1]) (ne2 (by omega) (by omega)) (by omega)),(Box.stores_other (C:=Y) (k:=0) (l:=[.int .i64 i1,.bool s1,.slice p1 k1 c1,.slice q1 l1 d1]) HE.out.2.1 (by omega)),(Box.stores_other (C:=Y) (k:=0) (l:=[.int .i64 i1,.bool s1,.slice p1 k1 c1,.slice q1 l1 d1]) HE.out.2.2.1 (by omega)),HE.out.2.2.2.1.stores [.int .i64 i1,.bool s1,.slice p1 k1 c1,.slice q1 l1 d1] rfl nd_E,ERep.stores (k:=0) (l:=[.int .i64 i1,.bool s1,.slice p1 k1 c1,.slice q1 l1 d1]) HE.out.2.2.2.2 HE.out.2.2.2.1 nd_E,ERep.stores (k:=0) (l:=[.int .i64 i1,.bool s1,.slice p1 k1 c1,.slice q1 l1 d1]) (HR.out _ HE.out.1.bel).1 HE.out.2.2.2.1 nd_E⟩
 case rest=>
 obtain⟨i9,s9,p9,k9,c9,q9,l9,d9,k1',k2',k3',k4',k5',k6'⟩:=hcut;have HQ:=hid (QQ.i3 (w:=w) (cs:=[.int .i64 i8,.bool s8,.slice p8 k8 c8,.slice q8 l8 d8]) (cs':=[.int .i64 i9,.bool s9,.slice p9 k9 c9,.slice q9 l9 d9]) (c2:=[.int .i64 i2,.bool s2,.slice p2 k2 c2,.slice q2 l2 d2,.int .i64 j2,.bool sz2,.slice pz2 kz2 cz2,.slice qz2 lz2 dz2,.bool e2]) k3' k4' k1'.b2 k1'.bel);have HZ:=hid (Ai k2' (Ai k5' k6'));clear k1' k2' k3' k4' k5' k6' HE;have HS:=hid (fun (w':World) (hb:QQ w [(X,[.int .i64 i8,.bool s8,.slice p8 k8 c8,.slice q8 l8 d8]),(Y,[.int .i64 i9,.bool s9,.slice p9 k9 c9,.slice q9 l9 d9]),(w.heap.size+1,[.int .i64 i2,.bool s2,.slice p2 k2 c2,.slice q2 l2 d2,.int .i64 j2,.bool sz2,.slice pz2 kz2 cz2,.slice qz2 lz2 dz2,.bool e2])] w')=>hb.s_4_4_9);have HN:Hid (Apart [(X,[.int .i64 i8,.bool s8,.slice p8 k8 c8,.slice q8 l8 d8]),(Y,[.int .i64 i9,.bool s9,.slice p9 k9 c9,.slice q9 l9 d9]),(w.heap.size+1,[.int .i64 i2,.bool s2,.slice p2 k2 c2,.slice q2 l2 d2,.int .i64 j2,.bool sz2,.slice pz2 kz2 cz2,.slice qz2 lz2 dz2,.bool e2])] (w.heap.size+1+1)):=hid (ne3 (by omega) (by omega) (by omega));have HI:Hid (w.heap.size≤w.heap.size+1+1):=hid (by omega);go_wp2_with fail
 go_region_held3 (fun w'=>w'.cell? ⟨X,0,none⟩=some (.int .i64 i8)∧w'.cell? ⟨X,1,none⟩=some (.bool s8)∧w'.cell? ⟨X,2,none⟩=some (.slice p8 k8 c8)∧w'.cell? ⟨X,3,none⟩=some (.slice q8 l8 d8)∧w'.cell? ⟨Y,0,none⟩=some (.int .i64 i9)∧w'.cell? ⟨Y,1,none⟩=some (.bool s9)∧w'.cell? ⟨Y,2,none⟩=some (.slice p9 k9 c9)∧w'.cell? ⟨Y,3,none⟩=some (.slice q9 l9 d9)∧w'.cell? ⟨w.heap.size+1,0,none⟩=some (.int .i64 i2)∧w'.cell? ⟨w.heap.size+1,1,none⟩=some (.bool s2)∧w'.cell? ⟨w.heap.size+1,2,none⟩=some (.slice p2 k2 c2)∧w'.cell? ⟨w.heap.size+1,3,none⟩=some (.slice q2 l2 d2)∧w'.cell? ⟨w.heap.size+1,4,none⟩=some (.int .i64 j2)∧w'.cell? ⟨w.heap.size+1,5,none⟩=some (.bool sz2)∧w'.cell? ⟨w.heap.size+1,6,none⟩=some (.slice pz2 kz2 cz2)∧w'.cell? ⟨w.heap.size+1,7,none⟩=some (.slice qz2 lz2 dz2)∧w'.cell? ⟨w.heap.size+1,8,none⟩=some (.bool e2)∧Hid (QQ w [(X,[.int .i64 i8,.bool s8,.slice p8 k8 c8,.slice q8 l8 d8]),(Y,[.int .i64 i9,.bool s9,.slice p9 k9 c9,.slice q9 l9 d9]),(w.heap.size+1,[.int .i64 i2,.bool s2,.slice p2 k2 c2,.slice q2 l2 d2,.int .i64 j2,.bool sz2,.slice pz2 kz2 cz2,.slice qz2 lz2 dz2,.bool e2])] w'))
  (first | (refine HS.out _ ?_;first | (with_reducible exact HQ.out.drew) | (with_reducible assumption) | (with_reducible refine QQ.st9 ?_ HN.out HI.out;assumption)))
  (first
   | (go_at_call_of 53 p2;refine(HL.out _ i8 s8 p8 k8 c8 q8 l8 d8 HQ.out.drew.bel (HZ.out.2.1.below (Below.refl _ _).drew)).mono ?_;rintro e wa ⟨i4,s4,p4,k4,c4,q4,l4,d4,rfl,hE1,hB1⟩;have hQ1:=HQ.out.drew.call hB1;have hV1:=(HZ.out.1.drew).below hB1)
   | (go_at_call_of 53 pz2;refine(HH.out _ i9 s9 p9 k9 c9 q9 l9 d9 hQ1.bel ((HZ.out.2.2.below (Below.refl _ _).drew).below hB1)).mono ?_;rintro e wb ⟨i5,s5,p5,k5,c5,q5,l5,d5,rfl,hE2,hB2⟩;have hQ2:=hQ1.call hB2;have hV2:=hV1.below hB2;obtain⟨g0,g1,g2,g3,g4,g5,g6,g7,g8,f0,f1,f2,f3,f4,f5,f6,f7,f8⟩:=hV2.cells9))
 rename_i hHeld
 clear hHeld;have HE:=hid (Ai hV2 (Ai (hE1.out.below hB2) (Ai hE2.out hQ2.bel)));clear hQ1 hQ2 hV1 hV2 hB1 hB2 hE1 hE2;go_wp2_with fail;exact scale_ret rfl (HE.out.1.stores [.int .i64 i4,.bool s4,.slice p4 k4 c4,.slice q4 l4 d4,.int .i64 i5,.bool s5,.slice p5 k5 c5,.slice q5 l5 d5,.bool false] rfl nd_S) ⟨_,_,_,_,_,_,_,_,_,_,_,_,_,_,_,_,_,rfl,hid ⟨_,_,_,_,_,_,_,_,_,_,_,_,_,_,_,_,_,rfl,by rw[hX.out];exact ERep.stores (k:=0) (l:=[.int .i64 i4,.bool s4,.slice p4 k4 c4,.slice q4 l4 d4,.int .i64 i5,.bool s5,.slice p5 k5 c5,.slice q5 l5 d5,.bool false]) HE.out.2.1 HE.out.1 nd_S,by rw[hX.out];exact ERep.stores (k:=0) (l:=[.int .i64 i4,.bool s4,.slice p4 k4 c4,.slice q4 l4 d4,.int .i64 i5,.bool s5,.slice p5 k5 c5,.slice q5 l5 d5,.bool false]) HE.out.2.2.1 HE.out.1 nd_S,by rw[hX.out]⟩,Below.stores (k:=0) (l:=[.int .i64 i4,.bool s4,.slice p4 k4 c4,.slice q4 l4 d4,.int .i64 i5,.bool s5,.slice p5 k5 c5,.slice q5 l5 d5,.bool false]) HE.out.2.2.2 (by omega)⟩
theorem scale_any(i1 s1 p1 k1 c1 q1 l1 d1 j1 sz1 pz1 kz1 cz1 qz1 lz1 dz1 e1 i2 s2 p2 k2 c2 q2 l2 d2 j2 sz2 pz2 kz2 cz2 qz2 lz2 dz2 e2)(x y:Ts)(w:World)(h:SRep w (.agg #[.int .i64 i1,.bool s1,.slice p1 k1 c1,.slice q1 l1 d1,.int .i64 j1,.bool sz1,.slice pz1 kz1 cz1,.slice qz1 lz1 dz1,.bool e1]) x)(h':SRep w (.agg #[.int .i64 i2,.bool s2,.slice p2 k2 c2,.slice q2 l2 d2,.int .i64 j2,.bool sz2,.slice pz2 kz2 cz2,.slice qz2 lz2 dz2,.bool e2]) y)(hx:EOk 1000 x.1∧EOk 1000 x.2.1)(hy:EOk 1000 y.1∧EOk 1000 y.2.1)(ht:TabOk w):
  Calls Tryz.prog 52 #[.agg #[.int .i64 i1,.bool s1,.slice p1 k1 c1,.slice q1 l1 d1,.int .i64 j1,.bool sz1,.slice pz1 kz1 cz1,.slice qz1 lz1 dz1,.bool e1],.agg #[.int .i64 i2,.bool s2,.slice p2 k2 c2,.slice q2 l2 d2,.int .i64 j2,.bool sz2,.slice pz2 kz2 cz2,.slice qz2 lz2 dz2,.bool e2]] w (SP w (sscale x y)):=by
 have h1:=h.ends;have h2:=h'.ends
 have pick:∀b:Bool,EOk 1000 (if b then x.1 else x.2.1):=by
  intro b;cases b
  ·exact hx.2
  ·exact hx.1
 refine scale_gen i1 s1 p1 k1 c1 q1 l1 d1 j1 sz1 pz1 kz1 cz1 qz1 lz1 dz1 e1 i2 s2 p2 k2 c2 q2 l2 d2 j2 sz2 pz2 kz2 cz2 qz2 lz2 dz2 e2 _ _ (esgn y.1) (esgn y.2.1) x.1 x.2.1 _ _ (sscale x y) w (hid ?_) rfl rfl (hid fun W hW=>⟨h1.1.below hW,h1.2.1.below hW⟩)
  (hid fun W hW=>esign_any i2 s2 p2 k2 c2 q2 l2 d2 y.1 W (h2.1.below hW)) (hid fun W hW=>esign_any j2 sz2 pz2 kz2 cz2 qz2 lz2 dz2 y.2.1 W (h2.2.1.below hW))
  (hid fun W i8 s8 p8 k8 c8 q8 l8 d8 hW hE=>etimes_any i8 s8 p8 k8 c8 q8 l8 d8 i2 s2 p2 k2 c2 q2 l2 d2 _ y.1 W hE (h2.1.below hW) (pick _) hy.1 (ht.below hW))
  (hid fun W i8 s8 p8 k8 c8 q8 l8 d8 hW hE=>etimes_any i8 s8 p8 k8 c8 q8 l8 d8 j2 sz2 pz2 kz2 cz2 qz2 lz2 dz2 _ y.2.1 W hE (h2.2.1.below hW) (pick _) hy.2 (ht.below hW))
 unfold sscale;simp only[decide_eq_true_eq]
end Go.Proofs.YteblinkehldghaaGreatDoor
