/- What LawOpp needs beside. -/
import Derived.Test.YteblinkehldghaaGreatDoorMulS
import Derived.Deep.RegionHeld3
import Derived.WalkSmall
import Derived.Deep.CutBlock
set_option maxHeartbeats 8000000
set_option maxRecDepth 100000
namespace Go.Proofs.YteblinkehldghaaGreatDoor
open Go.RowKit Dg
open And renaming intro→Ai
theorem qs_1_8{w w':World}{B0 B1:Nat}{a0_0 a1_0 a1_1 a1_2 a1_3 a1_4 a1_5 a1_6 a1_7:Value}(h:QQ w [(B0,[a0_0]),(B1,[a1_0,a1_1,a1_2,a1_3,a1_4,a1_5,a1_6,a1_7])] w'):w'.cell? ⟨B0,0,none⟩=some a0_0∧w'.cell? ⟨B1,0,none⟩=some a1_0∧w'.cell? ⟨B1,1,none⟩=some a1_1∧w'.cell? ⟨B1,2,none⟩=some a1_2∧w'.cell? ⟨B1,3,none⟩=some a1_3∧w'.cell? ⟨B1,4,none⟩=some a1_4∧w'.cell? ⟨B1,5,none⟩=some a1_5∧w'.cell? ⟨B1,6,none⟩=some a1_6∧w'.cell? ⟨B1,7,none⟩=some a1_7∧Hid (QQ w [(B0,[a0_0]),(B1,[a1_0,a1_1,a1_2,a1_3,a1_4,a1_5,a1_6,a1_7])] w'):=⟨h.b1.cells1.1,h.b2.cells8.1,h.b2.cells8.2.1,h.b2.cells8.2.2.1,h.b2.cells8.2.2.2.1,h.b2.cells8.2.2.2.2.1,h.b2.cells8.2.2.2.2.2.1,h.b2.cells8.2.2.2.2.2.2.1,h.b2.cells8.2.2.2.2.2.2.2.1,hid h⟩
theorem ask1I_ret{W:World}{B:Nat}{a0 a1 a2 a3 a4 a5 a6 a7:Value}{tm:Array Value}{R:Ending→World→Prop}(h2:tm[2]?.getD undef=.pointer (some ⟨B,0,none⟩))(hV:Box W B #[a0,a1,a2,a3,a4,a5,a6,a7])(hR:R (.returned (.agg #[a0,a1,a2,a3,a4,a5,a6,a7])) W):
  bodyPost Tryz.prog Tryz.f107 R .ret {tmps:=tm,defers:=[]} W:=by
 obtain⟨g0,g1,g2,g3,g4,g5,g6,g7,_⟩:=hV.cells8;exact bodyPost_ret (v:=.agg #[a0,a1,a2,a3,a4,a5,a6,a7]) (by simp [results,Tryz.results107,go_sem,h2,g0,g1,g2,g3,g4,g5,g6,g7]) rfl hR
theorem ask1I_ok(Bo Ba:Nat)(s1 p1 k1 c1 q1 l1 d1 sz1 pz1 kz1 cz1 qz1 lz1 dz1 x1 y1)(g:FuncId)(cap:Array Value)(a b:Tq)(D:Ti)(w:World)
  (hBo:Box w Bo #[.func (.func g) #[] cap])(hBa:Box w Ba #[.bool s1,.slice p1 k1 c1,.slice q1 l1 d1,.bool sz1,.slice pz1 kz1 cz1,.slice qz1 lz1 dz1,.bool x1,.bool y1])(ha:NRep w (.agg #[.bool s1,.slice p1 k1 c1,.slice q1 l1 d1]) a)(hb:NRep w (.agg #[.bool sz1,.slice pz1 kz1 cz1,.slice qz1 lz1 dz1]) b)(h1:large a.2.1 a.2.2=false)(h2:large b.2.1 b.2.2=false)(ht:TabOk w)
  (hfn:∀args W,(callFunc g args).run Tryz.prog W=.ok (.enter g args) W)
  (hop:∀W i3 s3 p3 k3 c3 q3 l3 d3 j3 sz3 pz3 kz3 cz3 qz3 lz3 dz3 e3,Bw w W→SRep W (.agg #[.int .i64 i3,.bool s3,.slice p3 k3 c3,.slice q3 l3 d3,.int .i64 j3,.bool sz3,.slice pz3 kz3 cz3,.slice qz3 lz3 dz3,.bool e3]) (srd (a,b,x1,y1))→Calls Tryz.prog g (#[.agg #[.int .i64 i3,.bool s3,.slice p3 k3 c3,.slice q3 l3 d3,.int .i64 j3,.bool sz3,.slice pz3 kz3 cz3,.slice qz3 lz3 dz3,.bool e3]] ++ cap) W fun e w'=>∃s5 p5 k5 c5 q5 l5 d5 sz5 pz5 kz5 cz5 qz5 lz5 dz5 x5 y5,e=.returned (.agg #[.bool s5,.slice p5 k5 c5,.slice q5 l5 d5,.bool sz5,.slice pz5 kz5 cz5,.slice qz5 lz5 dz5,.bool x5,.bool y5])∧Hid (GRep w' (.agg #[.bool s5,.slice p5 k5 c5,.slice q5 l5 d5,.bool sz5,.slice pz5 kz5 cz5,.slice qz5 lz5 dz5,.bool x5,.bool y5]) D)∧Bw W w'):
  Calls Tryz.prog 107 #[.pointer (some ⟨Bo,0,none⟩),.pointer (some ⟨Ba,0,none⟩)] w fun e w'=>∃s5 p5 k5 c5 q5 l5 d5 sz5 pz5 kz5 cz5 qz5 lz5 dz5 x5 y5,e=.returned (.agg #[.bool s5,.slice p5 k5 c5,.slice q5 l5 d5,.bool sz5,.slice pz5 kz5 cz5,.slice qz5 lz5 dz5,.bool x5,.bool y5])∧Hid (GRep w' (.agg #[.bool s5,.slice p5 k5 c5,.slice q5 l5 d5,.bool sz5,.slice pz5 kz5 cz5,.slice qz5 lz5 dz5,.bool x5,.bool y5]) D)∧Bw w w':=by
 have HR:=hid (fun (W:World) (hW:Bw w W)=>readSet_ok s1 p1 k1 c1 q1 l1 d1 sz1 pz1 kz1 cz1 qz1 lz1 dz1 x1 y1 a b W (ha.below hW) (hb.below hW) h1 h2 (ht.below hW));have HO:=hid hop;clear ha hb h1 h2 ht hop;have hlo:=hBo.lt;have hla:=hBa.lt;go_enter Tryz.func107,Tryz.ntmps107;go_upto_region 1 with fail;generalize hA:World.alloc _ _=W0;have HV:=hid (pre1_o hA nd8);clear hA;have HQ:=hid (QQ.i2 (cs:=[.func (.func g) #[] cap]) (cs':=[.bool s1,.slice p1 k1 c1,.slice q1 l1 d1,.bool sz1,.slice pz1 kz1 cz1,.slice qz1 lz1 dz1,.bool x1,.bool y1]) (hBo.below HV.out.2) (hBa.below HV.out.2) HV.out.2);have HN:Hid (Apart [(Bo,[.func (.func g) #[] cap]),(Ba,[.bool s1,.slice p1 k1 c1,.slice q1 l1 d1,.bool sz1,.slice pz1 kz1 cz1,.slice qz1 lz1 dz1,.bool x1,.bool y1])] w.heap.size):=hid (ne2 (by omega) (by omega));have HI:Hid (w.heap.size≤w.heap.size):=hid (Nat.le_refl _);clear hBo hBa;have HS:=hid (fun (w':World) (hb:QQ w [(Bo,[.func (.func g) #[] cap]),(Ba,[.bool s1,.slice p1 k1 c1,.slice q1 l1 d1,.bool sz1,.slice pz1 kz1 cz1,.slice qz1 lz1 dz1,.bool x1,.bool y1])] w')=>qs_1_8 hb)
 go_region_held3 (fun w'=>w'.cell? ⟨Bo,0,none⟩=some (.func (.func g) #[] cap)∧w'.cell? ⟨Ba,0,none⟩=some (.bool s1)∧w'.cell? ⟨Ba,1,none⟩=some (.slice p1 k1 c1)∧w'.cell? ⟨Ba,2,none⟩=some (.slice q1 l1 d1)∧w'.cell? ⟨Ba,3,none⟩=some (.bool sz1)∧w'.cell? ⟨Ba,4,none⟩=some (.slice pz1 kz1 cz1)∧w'.cell? ⟨Ba,5,none⟩=some (.slice qz1 lz1 dz1)∧w'.cell? ⟨Ba,6,none⟩=some (.bool x1)∧w'.cell? ⟨Ba,7,none⟩=some (.bool y1)∧Hid (QQ w [(Bo,[.func (.func g) #[] cap]),(Ba,[.bool s1,.slice p1 k1 c1,.slice q1 l1 d1,.bool sz1,.slice pz1 kz1 cz1,.slice qz1 lz1 dz1,.bool x1,.bool y1])] w'))
  (first | (refine HS.out _ ?_;first | (with_reducible exact HQ.out.drew) | (with_reducible assumption) | (with_reducible refine QQ.st8 ?_ HN.out HI.out;assumption)))
  (first
   | (go_at_call 108;refine(HR.out _ HQ.out.drew.bel).mono ?_;rintro e wa ⟨i3,s3,p3,k3,c3,q3,l3,d3,j3,sz3,pz3,kz3,cz3,qz3,lz3,dz3,e3,rfl,hS,hB1⟩;have hQ1:=HQ.out.drew.call hB1;have hV1:=(HV.out.1.drew).below hB1)
   | (refine(HO.out _ i3 s3 p3 k3 c3 q3 l3 d3 j3 sz3 pz3 kz3 cz3 qz3 lz3 dz3 e3 hQ1.bel hS.out).mono ?_;rintro e wb ⟨s5,p5,k5,c5,q5,l5,d5,sz5,pz5,kz5,cz5,qz5,lz5,dz5,x5,y5,rfl,hG,hB2⟩;have hQ2:=hQ1.call hB2;have hV2:=hV1.below hB2;obtain⟨g0,g1,g2,g3,g4,g5,g6,g7,f0,f1,f2,f3,f4,f5,f6,f7⟩:=hV2.cells8))
 rename_i hHeld
 clear hHeld;have HE:=hid (And.intro hV2 (And.intro hG.out hQ2.bel));clear hQ1 hQ2 hB1 hB2 hS hV1 hV2 hG;go_wp2_with fail;exact ask1I_ret rfl (HE.out.1.stores [.bool s5,.slice p5 k5 c5,.slice q5 l5 d5,.bool sz5,.slice pz5 kz5 cz5,.slice qz5 lz5 dz5,.bool x5,.bool y5] rfl nd8) ⟨s5,p5,k5,c5,q5,l5,d5,sz5,pz5,kz5,cz5,qz5,lz5,dz5,x5,y5,rfl,hid (GRep.stores (k:=0) (l:=[.bool s5,.slice p5 k5 c5,.slice q5 l5 d5,.bool sz5,.slice pz5 kz5 cz5,.slice qz5 lz5 dz5,.bool x5,.bool y5]) HE.out.2.1 HE.out.1 nd8),Below.stores (k:=0) (l:=[.bool s5,.slice p5 k5 c5,.slice q5 l5 d5,.bool sz5,.slice pz5 kz5 cz5,.slice qz5 lz5 dz5,.bool x5,.bool y5]) HE.out.2.2 (Nat.le_refl _)⟩
theorem ask1I_large(Bo Ba:Nat)(s1 p1 k1 c1 q1 l1 d1 sz1 pz1 kz1 cz1 qz1 lz1 dz1 x1 y1)(g:FuncId)(cap:Array Value)(a b:Tq)(w:World)
  (hBo:Box w Bo #[.func (.func g) #[] cap])(hBa:Box w Ba #[.bool s1,.slice p1 k1 c1,.slice q1 l1 d1,.bool sz1,.slice pz1 kz1 cz1,.slice qz1 lz1 dz1,.bool x1,.bool y1])(ha:NRep w (.agg #[.bool s1,.slice p1 k1 c1,.slice q1 l1 d1]) a)(hb:NRep w (.agg #[.bool sz1,.slice pz1 kz1 cz1,.slice qz1 lz1 dz1]) b)(h1:(large a.2.1 a.2.2 || large b.2.1 b.2.2)=true)(ht:TabOk w):
  Calls Tryz.prog 107 #[.pointer (some ⟨Bo,0,none⟩),.pointer (some ⟨Ba,0,none⟩)] w fun e w'=>e=pan 1∧Bw w w':=by
 have HR:=hid (fun (W:World) (hW:Bw w W)=>readSet_pan s1 p1 k1 c1 q1 l1 d1 sz1 pz1 kz1 cz1 qz1 lz1 dz1 x1 y1 a b W (ha.below hW) (hb.below hW) h1 (ht.below hW));clear ha hb h1 ht;have hlo:=hBo.lt;have hla:=hBa.lt;go_enter Tryz.func107,Tryz.ntmps107;go_upto_region 1 with fail;generalize hA:World.alloc _ _=W0;have HV:=hid (pre1_o hA nd8);clear hA;have HQ:=hid (QQ.i2 (cs:=[.func (.func g) #[] cap]) (cs':=[.bool s1,.slice p1 k1 c1,.slice q1 l1 d1,.bool sz1,.slice pz1 kz1 cz1,.slice qz1 lz1 dz1,.bool x1,.bool y1]) (hBo.below HV.out.2) (hBa.below HV.out.2) HV.out.2);have HN:Hid (Apart [(Bo,[.func (.func g) #[] cap]),(Ba,[.bool s1,.slice p1 k1 c1,.slice q1 l1 d1,.bool sz1,.slice pz1 kz1 cz1,.slice qz1 lz1 dz1,.bool x1,.bool y1])] w.heap.size):=hid (ne2 (by omega) (by omega));have HI:Hid (w.heap.size≤w.heap.size):=hid (Nat.le_refl _);clear hBo hBa;have HS:=hid (fun (w':World) (hb:QQ w [(Bo,[.func (.func g) #[] cap]),(Ba,[.bool s1,.slice p1 k1 c1,.slice q1 l1 d1,.bool sz1,.slice pz1 kz1 cz1,.slice qz1 lz1 dz1,.bool x1,.bool y1])] w')=>qs_1_8 hb);refine wp_region_held_drew (S:=(fun w'=>w'.cell? ⟨Bo,0,none⟩=some (.func (.func g) #[] cap)∧w'.cell? ⟨Ba,0,none⟩=some (.bool s1)∧w'.cell? ⟨Ba,1,none⟩=some (.slice p1 k1 c1)∧w'.cell? ⟨Ba,2,none⟩=some (.slice q1 l1 d1)∧w'.cell? ⟨Ba,3,none⟩=some (.bool sz1)∧w'.cell? ⟨Ba,4,none⟩=some (.slice pz1 kz1 cz1)∧w'.cell? ⟨Ba,5,none⟩=some (.slice qz1 lz1 dz1)∧w'.cell? ⟨Ba,6,none⟩=some (.bool x1)∧w'.cell? ⟨Ba,7,none⟩=some (.bool y1)∧Hid (QQ w [(Bo,[.func (.func g) #[] cap]),(Ba,[.bool s1,.slice p1 k1 c1,.slice q1 l1 d1,.bool sz1,.slice pz1 kz1 cz1,.slice qz1 lz1 dz1,.bool x1,.bool y1])] w'))) (by kernel_rfl) (HS.out _ HQ.out.drew) (fun hHeld=>?_);refine wt (v:=?vv0) 0 rfl (.inl ⟨by rfl,?hy0⟩) ?_
 case hy0=>(intro w' hSw;(try dsimp only at hSw);go_simp;first | done | with_reducible rfl)
 simp only[Act.put];refine wt (v:=?vv1) 1 rfl (.inl ⟨by rfl,?hy1⟩) ?_
 case hy1=>(intro w' hSw;(try dsimp only at hSw);go_simp;first | done | with_reducible rfl)
 simp only[Act.put];refine wr 2 rfl (fun K hK=>?_);go_simp;go_at_call 108;refine(HR.out _ HQ.out.drew.bel).mono ?_;rintro e wa ⟨rfl,hB1⟩;exact⟨rfl,rfl,(HQ.out.drew.call hB1).bel⟩
theorem enter_ask1I(args:Array Value)(w:World):(callFunc 107 args).run Tryz.prog w=.ok (.enter 107 args) w:=call_enter Tryz.func107 (by kernel_rfl) rfl args w
theorem askI_ret{W:World}{B:Nat}{a0 a1 a2 a3 a4 a5 a6 a7 ev:Value}{tm:Array Value}{R:Ending→World→Prop}(h2:tm[4]?.getD undef=.pointer (some ⟨B,0,none⟩))(h3:tm[5]?.getD undef=ev)(hV:Box W B #[a0,a1,a2,a3,a4,a5,a6,a7])(hR:R (.returned (.tuple #[.agg #[a0,a1,a2,a3,a4,a5,a6,a7],ev])) W):
  bodyPost Tryz.prog Tryz.f72 R .ret {tmps:=tm,defers:=[]} W:=by
 obtain⟨g0,g1,g2,g3,g4,g5,g6,g7,_⟩:=hV.cells8;exact bodyPost_ret (v:=.tuple #[.agg #[a0,a1,a2,a3,a4,a5,a6,a7],ev]) (by simp [results,Tryz.results72,go_sem,h2,h3,g0,g1,g2,g3,g4,g5,g6,g7]) rfl hR
theorem askI_any(s1 p1 k1 c1 q1 l1 d1 sz1 pz1 kz1 cz1 qz1 lz1 dz1 x1 y1)(g:FuncId)(cap:Array Value)(D:Ti)(c)(w:World)
  (hcl:∀W,Bw w W→Box W w.heap.size #[.bool s1,.slice p1 k1 c1,.slice q1 l1 d1,.bool sz1,.slice pz1 kz1 cz1,.slice qz1 lz1 dz1,.bool x1,.bool y1]→Box W (w.heap.size+1) #[.func (.func g) #[] cap]→
   Calls Tryz.prog 106 #[.func (.func 107) #[] #[.pointer (some ⟨w.heap.size+1,0,none⟩),.pointer (some ⟨w.heap.size,0,none⟩)]] W fun e w'=>∃s5 p5 k5 c5 q5 l5 d5 sz5 pz5 kz5 cz5 qz5 lz5 dz5 x5 y5,e=.returned (.tuple #[.agg #[.bool s5,.slice p5 k5 c5,.slice q5 l5 d5,.bool sz5,.slice pz5 kz5 cz5,.slice qz5 lz5 dz5,.bool x5,.bool y5],.int .i64 c])∧Hid (GRep w' (.agg #[.bool s5,.slice p5 k5 c5,.slice q5 l5 d5,.bool sz5,.slice pz5 kz5 cz5,.slice qz5 lz5 dz5,.bool x5,.bool y5]) D)∧Bw W w'):
  Calls Tryz.prog 72 #[.agg #[.bool s1,.slice p1 k1 c1,.slice q1 l1 d1,.bool sz1,.slice pz1 kz1 cz1,.slice qz1 lz1 dz1,.bool x1,.bool y1],.func (.func g) #[] cap] w fun e w'=>∃s5 p5 k5 c5 q5 l5 d5 sz5 pz5 kz5 cz5 qz5 lz5 dz5 x5 y5,e=.returned (.tuple #[.agg #[.bool s5,.slice p5 k5 c5,.slice q5 l5 d5,.bool sz5,.slice pz5 kz5 cz5,.slice qz5 lz5 dz5,.bool x5,.bool y5],.int .i64 c])∧Hid (GRep w' (.agg #[.bool s5,.slice p5 k5 c5,.slice q5 l5 d5,.bool sz5,.slice pz5 kz5 cz5,.slice qz5 lz5 dz5,.bool x5,.bool y5]) D)∧Bw w w':=by
 have hmf:=makeFunc_run;have HC:=hid hcl;clear hcl;go_enter Tryz.func72,Tryz.ntmps72;go_wp2_with fail;have HV:=hid (pre3 w [.bool s1,.slice p1 k1 c1,.slice q1 l1 d1,.bool sz1,.slice pz1 kz1 cz1,.slice qz1 lz1 dz1,.bool x1,.bool y1] [.func (.func g) #[] cap] [.bool false,.slice none 0 0,.slice none 0 0,.bool false,.slice none 0 0,.slice none 0 0,.bool false,.bool false] 26 96 26 nd8 nd1 nd8);generalize((w.alloc (.cells #[.bool s1,.slice p1 k1 c1,.slice q1 l1 d1,.bool sz1,.slice pz1 kz1 cz1,.slice qz1 lz1 dz1,.bool x1,.bool y1] 26)).alloc (.cells #[.func (.func g) #[] cap] 96)).alloc (.cells #[.bool false,.slice none 0 0,.slice none 0 0,.bool false,.slice none 0 0,.slice none 0 0,.bool false,.bool false] 26)=W0 at *;refine(HC.out _ HV.out.2.2.2 HV.out.1 HV.out.2.1).mono ?_;rintro e w1 ⟨s5,p5,k5,c5,q5,l5,d5,sz5,pz5,kz5,cz5,qz5,lz5,dz5,x5,y5,rfl,hG,hB1⟩;have HE:=hid (And.intro (HV.out.2.2.1.below hB1) (HV.out.2.2.2.trans (hB1.mono HV.out.2.2.2.size)));clear hB1;obtain⟨g0,g1,g2,g3,g4,g5,g6,g7,f0,f1,f2,f3,f4,f5,f6,f7⟩:=HE.out.1.cells8;go_wp2_with fail;exact askI_ret rfl rfl (HE.out.1.stores [.bool s5,.slice p5 k5 c5,.slice q5 l5 d5,.bool sz5,.slice pz5 kz5 cz5,.slice qz5 lz5 dz5,.bool x5,.bool y5] rfl nd8) ⟨s5,p5,k5,c5,q5,l5,d5,sz5,pz5,kz5,cz5,qz5,lz5,dz5,x5,y5,rfl,hid (GRep.stores (k:=0) (l:=[.bool s5,.slice p5 k5 c5,.slice q5 l5 d5,.bool sz5,.slice pz5 kz5 cz5,.slice qz5 lz5 dz5,.bool x5,.bool y5]) hG.out HE.out.1 nd8),Below.stores (k:=0) (l:=[.bool s5,.slice p5 k5 c5,.slice q5 l5 d5,.bool sz5,.slice pz5 kz5 cz5,.slice qz5 lz5 dz5,.bool x5,.bool y5]) HE.out.2 (by omega)⟩
theorem askI_ok(s1 p1 k1 c1 q1 l1 d1 sz1 pz1 kz1 cz1 qz1 lz1 dz1 x1 y1)(g:FuncId)(cap:Array Value)(a b:Tq)(D:Ti)(w:World)(ha:NRep w (.agg #[.bool s1,.slice p1 k1 c1,.slice q1 l1 d1]) a)(hb:NRep w (.agg #[.bool sz1,.slice pz1 kz1 cz1,.slice qz1 lz1 dz1]) b)(h1:large a.2.1 a.2.2=false)(h2:large b.2.1 b.2.2=false)(ht:TabOk w)
  (hfn:∀args W,(callFunc g args).run Tryz.prog W=.ok (.enter g args) W)
  (hop:∀W i3 s3 p3 k3 c3 q3 l3 d3 j3 sz3 pz3 kz3 cz3 qz3 lz3 dz3 e3,Bw w W→SRep W (.agg #[.int .i64 i3,.bool s3,.slice p3 k3 c3,.slice q3 l3 d3,.int .i64 j3,.bool sz3,.slice pz3 kz3 cz3,.slice qz3 lz3 dz3,.bool e3]) (srd (a,b,x1,y1))→Calls Tryz.prog g (#[.agg #[.int .i64 i3,.bool s3,.slice p3 k3 c3,.slice q3 l3 d3,.int .i64 j3,.bool sz3,.slice pz3 kz3 cz3,.slice qz3 lz3 dz3,.bool e3]] ++ cap) W fun e w'=>∃s5 p5 k5 c5 q5 l5 d5 sz5 pz5 kz5 cz5 qz5 lz5 dz5 x5 y5,e=.returned (.agg #[.bool s5,.slice p5 k5 c5,.slice q5 l5 d5,.bool sz5,.slice pz5 kz5 cz5,.slice qz5 lz5 dz5,.bool x5,.bool y5])∧Hid (GRep w' (.agg #[.bool s5,.slice p5 k5 c5,.slice q5 l5 d5,.bool sz5,.slice pz5 kz5 cz5,.slice qz5 lz5 dz5,.bool x5,.bool y5]) D)∧Bw W w'):
  Calls Tryz.prog 72 #[.agg #[.bool s1,.slice p1 k1 c1,.slice q1 l1 d1,.bool sz1,.slice pz1 kz1 cz1,.slice qz1 lz1 dz1,.bool x1,.bool y1],.func (.func g) #[] cap] w fun e w'=>∃s5 p5 k5 c5 q5 l5 d5 sz5 pz5 kz5 cz5 qz5 lz5 dz5 x5 y5,e=.returned (.tuple #[.agg #[.bool s5,.slice p5 k5 c5,.slice q5 l5 d5,.bool sz5,.slice pz5 kz5 cz5,.slice qz5 lz5 dz5,.bool x5,.bool y5],.int .i64 0])∧Hid (GRep w' (.agg #[.bool s5,.slice p5 k5 c5,.slice q5 l5 d5,.bool sz5,.slice pz5 kz5 cz5,.slice qz5 lz5 dz5,.bool x5,.bool y5]) D)∧Bw w w':=
 askI_any s1 p1 k1 c1 q1 l1 d1 sz1 pz1 kz1 cz1 qz1 lz1 dz1 x1 y1 g cap D 0 w fun W hW hBa hBo=>
  finI_ok _ _ D W enter_ask1I fun W3 hW3=>ask1I_ok (w.heap.size+1) w.heap.size s1 p1 k1 c1 q1 l1 d1 sz1 pz1 kz1 cz1 qz1 lz1 dz1 x1 y1 g cap a b D W3 (hBo.below hW3) (hBa.below hW3) ((ha.below hW).below hW3) ((hb.below hW).below hW3) h1 h2 ((ht.below hW).below hW3) hfn
   fun W4 i3 s3 p3 k3 c3 q3 l3 d3 j3 sz3 pz3 kz3 cz3 qz3 lz3 dz3 e3 hW4 hS=>hop W4 i3 s3 p3 k3 c3 q3 l3 d3 j3 sz3 pz3 kz3 cz3 qz3 lz3 dz3 e3 ((hW.trans (hW3.mono hW.size)).trans (hW4.mono (hW.trans (hW3.mono hW.size)).size)) hS
theorem askI_large(s1 p1 k1 c1 q1 l1 d1 sz1 pz1 kz1 cz1 qz1 lz1 dz1 x1 y1)(g:FuncId)(cap:Array Value)(a b:Tq)(w:World)(ha:NRep w (.agg #[.bool s1,.slice p1 k1 c1,.slice q1 l1 d1]) a)(hb:NRep w (.agg #[.bool sz1,.slice pz1 kz1 cz1,.slice qz1 lz1 dz1]) b)(h1:(large a.2.1 a.2.2 || large b.2.1 b.2.2)=true)(ht:TabOk w):
  Calls Tryz.prog 72 #[.agg #[.bool s1,.slice p1 k1 c1,.slice q1 l1 d1,.bool sz1,.slice pz1 kz1 cz1,.slice qz1 lz1 dz1,.bool x1,.bool y1],.func (.func g) #[] cap] w fun e w'=>∃s5 p5 k5 c5 q5 l5 d5 sz5 pz5 kz5 cz5 qz5 lz5 dz5 x5 y5,e=.returned (.tuple #[.agg #[.bool s5,.slice p5 k5 c5,.slice q5 l5 d5,.bool sz5,.slice pz5 kz5 cz5,.slice qz5 lz5 dz5,.bool x5,.bool y5],.int .i64 1])∧Hid (GRep w' (.agg #[.bool s5,.slice p5 k5 c5,.slice q5 l5 d5,.bool sz5,.slice pz5 kz5 cz5,.slice qz5 lz5 dz5,.bool x5,.bool y5]) gzero)∧Bw w w':=
 askI_any s1 p1 k1 c1 q1 l1 d1 sz1 pz1 kz1 cz1 qz1 lz1 dz1 x1 y1 g cap gzero 1 w fun W hW hBa hBo=>
  fin_zero (finI_err _ _ 1 W enter_ask1I fun W3 hW3=>ask1I_large (w.heap.size+1) w.heap.size s1 p1 k1 c1 q1 l1 d1 sz1 pz1 kz1 cz1 qz1 lz1 dz1 x1 y1 g cap a b W3 (hBo.below hW3) (hBa.below hW3) ((ha.below hW).below hW3) ((hb.below hW).below hW3) h1 ((ht.below hW).below hW3))
def icode (a:Ti):Int:=if ilarge a then 1 else 0
theorem ebig_rd{inf:Bool}{g:Int}{t:Tq}(hl:large t.2.1 t.2.2=false):ebig (rdE inf g t)=false:=by
 cases inf
 ·show(decide ((0:Int)=0) && big (fr t).2.1 (fr t).2.2)=false;rw[w64_not_big (fr_bd hl).1 (fr_bd hl).2];rfl
 ·show(decide (g=0) && big 0 0)=false;rw[w64_not_big (Nat.pow_pos W32_pos) (Nat.pow_pos W32_pos),Bool.and_false]
theorem one1_ret{W:World}{B:Nat}{a0 a1 a2 a3 a4 a5 a6 a7:Value}{tm:Array Value}{R:Ending→World→Prop}(h2:tm[4]?.getD undef=.pointer (some ⟨B,0,none⟩))(hV:Box W B #[a0,a1,a2,a3,a4,a5,a6,a7])(hR:R (.returned (.agg #[a0,a1,a2,a3,a4,a5,a6,a7])) W):
  bodyPost Tryz.prog Tryz.f73 R .ret {tmps:=tm,defers:=[]} W:=by
 obtain⟨g0,g1,g2,g3,g4,g5,g6,g7,_⟩:=hV.cells8;exact bodyPost_ret (v:=.agg #[a0,a1,a2,a3,a4,a5,a6,a7]) (by simp [results,Tryz.results73,go_sem,h2,g0,g1,g2,g3,g4,g5,g6,g7]) rfl hR
theorem one1_ok(i1 s1 p1 k1 c1 q1 l1 d1 j1 sz1 pz1 kz1 cz1 qz1 lz1 dz1 e1)(Bv Bo:Nat)(g:FuncId)(cap:Array Value)(x r:Ts)(w:World)
  (hBv:Box w Bv #[.bool true])(hBo:Box w Bo #[.func (.func g) #[] cap])(h:SRep w (.agg #[.int .i64 i1,.bool s1,.slice p1 k1 c1,.slice q1 l1 d1,.int .i64 j1,.bool sz1,.slice pz1 kz1 cz1,.slice qz1 lz1 dz1,.bool e1]) x)(hx:x.2.2=false)
  (hr:EOk 100000 r.1∧EOk 100000 r.2.1)(hb:ebig r.1=false∧ebig r.2.1=false)(he:r.2.2=false)
  (hfn:∀args W,(callFunc g args).run Tryz.prog W=.ok (.enter g args) W)
  (hop:∀W,Bw w W→SRep W (.agg #[.int .i64 i1,.bool s1,.slice p1 k1 c1,.slice q1 l1 d1,.int .i64 j1,.bool sz1,.slice pz1 kz1 cz1,.slice qz1 lz1 dz1,.bool e1]) x→Calls Tryz.prog g (#[.agg #[.int .i64 i1,.bool s1,.slice p1 k1 c1,.slice q1 l1 d1,.int .i64 j1,.bool sz1,.slice pz1 kz1 cz1,.slice qz1 lz1 dz1,.bool e1]] ++ cap) W fun e w'=>∃i3 s3 p3 k3 c3 q3 l3 d3 j3 sz3 pz3 kz3 cz3 qz3 lz3 dz3 e3,e=.returned (.agg #[.int .i64 i3,.bool s3,.slice p3 k3 c3,.slice q3 l3 d3,.int .i64 j3,.bool sz3,.slice pz3 kz3 cz3,.slice qz3 lz3 dz3,.bool e3])∧Hid (SRep w' (.agg #[.int .i64 i3,.bool s3,.slice p3 k3 c3,.slice q3 l3 d3,.int .i64 j3,.bool sz3,.slice pz3 kz3 cz3,.slice qz3 lz3 dz3,.bool e3]) r)∧Bw W w'):
  Calls Tryz.prog 73 #[.agg #[.int .i64 i1,.bool s1,.slice p1 k1 c1,.slice q1 l1 d1,.int .i64 j1,.bool sz1,.slice pz1 kz1 cz1,.slice qz1 lz1 dz1,.bool e1],.pointer (some ⟨Bv,0,none⟩),.pointer (some ⟨Bo,0,none⟩)] w fun e w'=>∃s5 p5 k5 c5 q5 l5 d5 sz5 pz5 kz5 cz5 qz5 lz5 dz5 x5 y5,e=.returned (.agg #[.bool s5,.slice p5 k5 c5,.slice q5 l5 d5,.bool sz5,.slice pz5 kz5 cz5,.slice qz5 lz5 dz5,.bool x5,.bool y5])∧Hid (GRep w' (.agg #[.bool s5,.slice p5 k5 c5,.slice q5 l5 d5,.bool sz5,.slice pz5 kz5 cz5,.slice qz5 lz5 dz5,.bool x5,.bool y5]) (giv r))∧Bw w w':=by
 have HO:=hid (fun (W:World) (hW:Bw w W)=>hop W hW (h.below hW));have HI:=hid (fun (W:World) i3 s3 p3 k3 c3 q3 l3 d3 j3 sz3 pz3 kz3 cz3 qz3 lz3 dz3 e3 (hS:SRep W (.agg #[.int .i64 i3,.bool s3,.slice p3 k3 c3,.slice q3 l3 d3,.int .i64 j3,.bool sz3,.slice pz3 kz3 cz3,.slice qz3 lz3 dz3,.bool e3]) r)=>siv_ok i3 s3 p3 k3 c3 q3 l3 d3 j3 sz3 pz3 kz3 cz3 qz3 lz3 dz3 e3 r W hS hr hb he);have e1':=h.ends.2.2;rw[hx] at e1';subst e1';obtain⟨D,hD⟩:∃D,D=giv r:=⟨_,rfl⟩;rw[←hD] at HI ⊢;have HP:=hid (And.intro hBv hBo);have hlo:=hBo.lt;have hlv:=hBv.lt;clear h hx hr hb he hop hD hBv hBo;go_enter Tryz.func73,Tryz.ntmps73;go_upto_region 1 with fail;generalize hA:World.alloc _ _=W0;have HV:=hid (pre2_o hA nd9 nd8);clear hA;obtain⟨t0,_⟩:=(HP.out.1.below HV.out.2.2).cells1;go_wp2_with fail;refine(unless_ok 2 W0).mono ?_;rintro e w1 ⟨rfl,rfl⟩;clear t0;obtain⟨t0,_⟩:=(HP.out.2.below HV.out.2.2).cells1;obtain⟨m0,m1,m2,m3,m4,m5,m6,m7,m8,_⟩:=HV.out.1.cells9;go_wp2_with fail;refine(HO.out _ HV.out.2.2).mono ?_;rintro e w2 ⟨i3,s3,p3,k3,c3,q3,l3,d3,j3,sz3,pz3,kz3,cz3,qz3,lz3,dz3,e3,rfl,hS,hB2⟩;have HB2:=hid hB2;clear hB2 t0 m0 m1 m2 m3 m4 m5 m6 m7 m8;go_wp2_with fail;refine(HI.out w2 i3 s3 p3 k3 c3 q3 l3 d3 j3 sz3 pz3 kz3 cz3 qz3 lz3 dz3 e3 hS.out).mono ?_;rintro e w3 ⟨s5,p5,k5,c5,q5,l5,d5,sz5,pz5,kz5,cz5,qz5,lz5,dz5,x5,y5,rfl,hG,hB3⟩;have HE:=hid (And.intro (HV.out.2.1.below (held_any HB2.out hB3)) (HV.out.2.2.trans ((held_any HB2.out hB3).mono HV.out.2.2.size)));clear hB3;obtain⟨g0,g1,g2,g3,g4,g5,g6,g7,f0,f1,f2,f3,f4,f5,f6,f7⟩:=HE.out.1.cells8;go_wp2_with fail;exact one1_ret rfl (HE.out.1.stores [.bool s5,.slice p5 k5 c5,.slice q5 l5 d5,.bool sz5,.slice pz5 kz5 cz5,.slice qz5 lz5 dz5,.bool x5,.bool y5] rfl nd8) ⟨s5,p5,k5,c5,q5,l5,d5,sz5,pz5,kz5,cz5,qz5,lz5,dz5,x5,y5,rfl,hid (GRep.stores (k:=0) (l:=[.bool s5,.slice p5 k5 c5,.slice q5 l5 d5,.bool sz5,.slice pz5 kz5 cz5,.slice qz5 lz5 dz5,.bool x5,.bool y5]) hG.out HE.out.1 nd8),Below.stores (k:=0) (l:=[.bool s5,.slice p5 k5 c5,.slice q5 l5 d5,.bool sz5,.slice pz5 kz5 cz5,.slice qz5 lz5 dz5,.bool x5,.bool y5]) HE.out.2 (by omega)⟩
theorem one1_empty(i1 s1 p1 k1 c1 q1 l1 d1 j1 sz1 pz1 kz1 cz1 qz1 lz1 dz1 e1)(Bv:Nat)(po:Value)(x:Ts)(w:World)
  (hBv:Box w Bv #[.bool true])(h:SRep w (.agg #[.int .i64 i1,.bool s1,.slice p1 k1 c1,.slice q1 l1 d1,.int .i64 j1,.bool sz1,.slice pz1 kz1 cz1,.slice qz1 lz1 dz1,.bool e1]) x)(hx:x.2.2=true):
  Calls Tryz.prog 73 #[.agg #[.int .i64 i1,.bool s1,.slice p1 k1 c1,.slice q1 l1 d1,.int .i64 j1,.bool sz1,.slice pz1 kz1 cz1,.slice qz1 lz1 dz1,.bool e1],.pointer (some ⟨Bv,0,none⟩),po] w fun e w'=>∃s5 p5 k5 c5 q5 l5 d5 sz5 pz5 kz5 cz5 qz5 lz5 dz5 x5 y5,e=.returned (.agg #[.bool s5,.slice p5 k5 c5,.slice q5 l5 d5,.bool sz5,.slice pz5 kz5 cz5,.slice qz5 lz5 dz5,.bool x5,.bool y5])∧Hid (GRep w' (.agg #[.bool s5,.slice p5 k5 c5,.slice q5 l5 d5,.bool sz5,.slice pz5 kz5 cz5,.slice qz5 lz5 dz5,.bool x5,.bool y5]) (giv x))∧Bw w w':=by
 have HI:=hid (fun (W:World) (hW:Bw w W)=>siv_empty i1 s1 p1 k1 c1 q1 l1 d1 j1 sz1 pz1 kz1 cz1 qz1 lz1 dz1 e1 x W (h.below hW) hx);have e1':=h.ends.2.2;rw[hx] at e1';subst e1';obtain⟨D,hD⟩:∃D,D=giv x:=⟨_,rfl⟩;rw[←hD] at HI ⊢;have HP:=hid hBv;have hlv:=hBv.lt;clear h hx hD hBv;go_enter Tryz.func73,Tryz.ntmps73;go_upto_region 1 with fail;generalize hA:World.alloc _ _=W0;have HV:=hid (pre2_o hA nd9 nd8);clear hA;obtain⟨t0,_⟩:=(HP.out.below HV.out.2.2).cells1;go_wp2_with fail;refine(unless_ok 2 W0).mono ?_;rintro e w1 ⟨rfl,rfl⟩;clear t0;obtain⟨m0,m1,m2,m3,m4,m5,m6,m7,m8,_⟩:=HV.out.1.cells9;go_wp2_with fail;refine(HI.out _ HV.out.2.2).mono ?_;rintro e w3 ⟨s5,p5,k5,c5,q5,l5,d5,sz5,pz5,kz5,cz5,qz5,lz5,dz5,x5,y5,rfl,hG,hB3⟩;have HE:=hid (And.intro (HV.out.2.1.below hB3) (HV.out.2.2.trans (hB3.mono HV.out.2.2.size)));clear hB3 m0 m1 m2 m3 m4 m5 m6 m7 m8;obtain⟨g0,g1,g2,g3,g4,g5,g6,g7,f0,f1,f2,f3,f4,f5,f6,f7⟩:=HE.out.1.cells8;go_wp2_with fail;exact one1_ret rfl (HE.out.1.stores [.bool s5,.slice p5 k5 c5,.slice q5 l5 d5,.bool sz5,.slice pz5 kz5 cz5,.slice qz5 lz5 dz5,.bool x5,.bool y5] rfl nd8) ⟨s5,p5,k5,c5,q5,l5,d5,sz5,pz5,kz5,cz5,qz5,lz5,dz5,x5,y5,rfl,hid (GRep.stores (k:=0) (l:=[.bool s5,.slice p5 k5 c5,.slice q5 l5 d5,.bool sz5,.slice pz5 kz5 cz5,.slice qz5 lz5 dz5,.bool x5,.bool y5]) hG.out HE.out.1 nd8),Below.stores (k:=0) (l:=[.bool s5,.slice p5 k5 c5,.slice q5 l5 d5,.bool sz5,.slice pz5 kz5 cz5,.slice qz5 lz5 dz5,.bool x5,.bool y5]) HE.out.2 (by omega)⟩
theorem enter_one1(args:Array Value)(w:World):(callFunc 73 args).run Tryz.prog w=.ok (.enter 73 args) w:=call_enter Tryz.func73 (by kernel_rfl) rfl args w
theorem one_ret{W:World}{B:Nat}{a0 a1 a2 a3 a4 a5 a6 a7 ev:Value}{tm:Array Value}{R:Ending→World→Prop}(h2:tm[6]?.getD undef=.pointer (some ⟨B,0,none⟩))(h3:tm[7]?.getD undef=ev)(hV:Box W B #[a0,a1,a2,a3,a4,a5,a6,a7])(hR:R (.returned (.tuple #[.agg #[a0,a1,a2,a3,a4,a5,a6,a7],ev])) W):
  bodyPost Tryz.prog Tryz.f36 R .ret {tmps:=tm,defers:=[]} W:=by
 obtain⟨g0,g1,g2,g3,g4,g5,g6,g7,_⟩:=hV.cells8;exact bodyPost_ret (v:=.tuple #[.agg #[a0,a1,a2,a3,a4,a5,a6,a7],ev]) (by simp [results,Tryz.results36,go_sem,h2,h3,g0,g1,g2,g3,g4,g5,g6,g7]) rfl hR
theorem one_any(s1 p1 k1 c1 q1 l1 d1 sz1 pz1 kz1 cz1 qz1 lz1 dz1 x1 y1 b)(g:FuncId)(cap:Array Value)(D:Ti)(c)(w:World)
  (hask:∀W,Bw w W→Box W (w.heap.size+1) #[.bool b]→Box W (w.heap.size+1+1) #[.func (.func g) #[] cap]→
   Calls Tryz.prog 72 #[.agg #[.bool s1,.slice p1 k1 c1,.slice q1 l1 d1,.bool sz1,.slice pz1 kz1 cz1,.slice qz1 lz1 dz1,.bool x1,.bool y1],.func (.func 73) #[] #[.pointer (some ⟨w.heap.size+1,0,none⟩),.pointer (some ⟨w.heap.size+1+1,0,none⟩)]] W fun e w'=>∃s5 p5 k5 c5 q5 l5 d5 sz5 pz5 kz5 cz5 qz5 lz5 dz5 x5 y5,e=.returned (.tuple #[.agg #[.bool s5,.slice p5 k5 c5,.slice q5 l5 d5,.bool sz5,.slice pz5 kz5 cz5,.slice qz5 lz5 dz5,.bool x5,.bool y5],.int .i64 c])∧Hid (GRep w' (.agg #[.bool s5,.slice p5 k5 c5,.slice q5 l5 d5,.bool sz5,.slice pz5 kz5 cz5,.slice qz5 lz5 dz5,.bool x5,.bool y5]) D)∧Bw W w'):
  Calls Tryz.prog 36 #[.agg #[.bool s1,.slice p1 k1 c1,.slice q1 l1 d1,.bool sz1,.slice pz1 kz1 cz1,.slice qz1 lz1 dz1,.bool x1,.bool y1],.bool b,.func (.func g) #[] cap] w fun e w'=>∃s5 p5 k5 c5 q5 l5 d5 sz5 pz5 kz5 cz5 qz5 lz5 dz5 x5 y5,e=.returned (.tuple #[.agg #[.bool s5,.slice p5 k5 c5,.slice q5 l5 d5,.bool sz5,.slice pz5 kz5 cz5,.slice qz5 lz5 dz5,.bool x5,.bool y5],.int .i64 c])∧Hid (GRep w' (.agg #[.bool s5,.slice p5 k5 c5,.slice q5 l5 d5,.bool sz5,.slice pz5 kz5 cz5,.slice qz5 lz5 dz5,.bool x5,.bool y5]) D)∧Bw w w':=by
 have hmf:=makeFunc_run;have HC:=hid hask;clear hask;go_enter Tryz.func36,Tryz.ntmps36;go_wp2_with fail;have HV:=hid (pre4 w [.bool s1,.slice p1 k1 c1,.slice q1 l1 d1,.bool sz1,.slice pz1 kz1 cz1,.slice qz1 lz1 dz1,.bool x1,.bool y1] [.bool b] [.func (.func g) #[] cap] [.bool false,.slice none 0 0,.slice none 0 0,.bool false,.slice none 0 0,.slice none 0 0,.bool false,.bool false] 26 4 45 26 nd8 nd1 nd1 nd8);generalize(((w.alloc (.cells #[.bool s1,.slice p1 k1 c1,.slice q1 l1 d1,.bool sz1,.slice pz1 kz1 cz1,.slice qz1 lz1 dz1,.bool x1,.bool y1] 26)).alloc (.cells #[.bool b] 4)).alloc (.cells #[.func (.func g) #[] cap] 45)).alloc (.cells #[.bool false,.slice none 0 0,.slice none 0 0,.bool false,.slice none 0 0,.slice none 0 0,.bool false,.bool false] 26)=W0 at *;refine(HC.out _ HV.out.2.2.2.2 HV.out.2.1 HV.out.2.2.1).mono ?_;rintro e w1 ⟨s5,p5,k5,c5,q5,l5,d5,sz5,pz5,kz5,cz5,qz5,lz5,dz5,x5,y5,rfl,hG,hB1⟩;have HE:=hid (And.intro (HV.out.2.2.2.1.below hB1) (HV.out.2.2.2.2.trans (hB1.mono HV.out.2.2.2.2.size)));clear hB1;obtain⟨g0,g1,g2,g3,g4,g5,g6,g7,f0,f1,f2,f3,f4,f5,f6,f7⟩:=HE.out.1.cells8;go_wp2_with fail;exact one_ret rfl rfl (HE.out.1.stores [.bool s5,.slice p5 k5 c5,.slice q5 l5 d5,.bool sz5,.slice pz5 kz5 cz5,.slice qz5 lz5 dz5,.bool x5,.bool y5] rfl nd8) ⟨s5,p5,k5,c5,q5,l5,d5,sz5,pz5,kz5,cz5,qz5,lz5,dz5,x5,y5,rfl,hid (GRep.stores (k:=0) (l:=[.bool s5,.slice p5 k5 c5,.slice q5 l5 d5,.bool sz5,.slice pz5 kz5 cz5,.slice qz5 lz5 dz5,.bool x5,.bool y5]) hG.out HE.out.1 nd8),Below.stores (k:=0) (l:=[.bool s5,.slice p5 k5 c5,.slice q5 l5 d5,.bool sz5,.slice pz5 kz5 cz5,.slice qz5 lz5 dz5,.bool x5,.bool y5]) HE.out.2 (by omega)⟩
def iop (f:Ts→Ts) (a:Ti):Ti:=if ilarge a then gzero else if (srd a).2.2 then giv (srd a) else giv (f (srd a))
theorem one_val(s1 p1 k1 c1 q1 l1 d1 sz1 pz1 kz1 cz1 qz1 lz1 dz1 x1 y1)(g:FuncId)(cap:Array Value)(f:Ts→Ts)(a b:Tq)(w:World)(ha:NRep w (.agg #[.bool s1,.slice p1 k1 c1,.slice q1 l1 d1]) a)(hb:NRep w (.agg #[.bool sz1,.slice pz1 kz1 cz1,.slice qz1 lz1 dz1]) b)(ht:TabOk w)
  (hfn:∀args W,(callFunc g args).run Tryz.prog W=.ok (.enter g args) W)
  (hr:large a.2.1 a.2.2=false→large b.2.1 b.2.2=false→(srd (a,b,x1,y1)).2.2=false→(EOk 100000 (f (srd (a,b,x1,y1))).1∧EOk 100000 (f (srd (a,b,x1,y1))).2.1)∧(ebig (f (srd (a,b,x1,y1))).1=false∧ebig (f (srd (a,b,x1,y1))).2.1=false)∧(f (srd (a,b,x1,y1))).2.2=false)
  (hop:large a.2.1 a.2.2=false→large b.2.1 b.2.2=false→(srd (a,b,x1,y1)).2.2=false→∀W i1 s1 p1 k1 c1 q1 l1 d1 j1 sz1 pz1 kz1 cz1 qz1 lz1 dz1 e1,Bw w W→SRep W (.agg #[.int .i64 i1,.bool s1,.slice p1 k1 c1,.slice q1 l1 d1,.int .i64 j1,.bool sz1,.slice pz1 kz1 cz1,.slice qz1 lz1 dz1,.bool e1]) (srd (a,b,x1,y1))→Calls Tryz.prog g (#[.agg #[.int .i64 i1,.bool s1,.slice p1 k1 c1,.slice q1 l1 d1,.int .i64 j1,.bool sz1,.slice pz1 kz1 cz1,.slice qz1 lz1 dz1,.bool e1]] ++ cap) W fun e w'=>∃i3 s3 p3 k3 c3 q3 l3 d3 j3 sz3 pz3 kz3 cz3 qz3 lz3 dz3 e3,e=.returned (.agg #[.int .i64 i3,.bool s3,.slice p3 k3 c3,.slice q3 l3 d3,.int .i64 j3,.bool sz3,.slice pz3 kz3 cz3,.slice qz3 lz3 dz3,.bool e3])∧Hid (SRep w' (.agg #[.int .i64 i3,.bool s3,.slice p3 k3 c3,.slice q3 l3 d3,.int .i64 j3,.bool sz3,.slice pz3 kz3 cz3,.slice qz3 lz3 dz3,.bool e3]) (f (srd (a,b,x1,y1))))∧Bw W w'):
  Calls Tryz.prog 36 #[.agg #[.bool s1,.slice p1 k1 c1,.slice q1 l1 d1,.bool sz1,.slice pz1 kz1 cz1,.slice qz1 lz1 dz1,.bool x1,.bool y1],.bool true,.func (.func g) #[] cap] w fun e w'=>∃s5 p5 k5 c5 q5 l5 d5 sz5 pz5 kz5 cz5 qz5 lz5 dz5 x5 y5,e=.returned (.tuple #[.agg #[.bool s5,.slice p5 k5 c5,.slice q5 l5 d5,.bool sz5,.slice pz5 kz5 cz5,.slice qz5 lz5 dz5,.bool x5,.bool y5],.int .i64 (icode (a,b,x1,y1))])∧Hid (GRep w' (.agg #[.bool s5,.slice p5 k5 c5,.slice q5 l5 d5,.bool sz5,.slice pz5 kz5 cz5,.slice qz5 lz5 dz5,.bool x5,.bool y5]) (iop f (a,b,x1,y1)))∧Bw w w':=by
 refine one_any s1 p1 k1 c1 q1 l1 d1 sz1 pz1 kz1 cz1 qz1 lz1 dz1 x1 y1 true g cap _ _ w fun W hW hBv hBo=>?_
 cases hL:(large a.2.1 a.2.2 || large b.2.1 b.2.2)
 ·have hla:ilarge (a,b,x1,y1)=false:=hL;rw[Bool.or_eq_false_iff] at hL
  have ec:icode (a,b,x1,y1)=0:=by unfold icode;rw[hla];rfl
  rw[ec];cases he:(srd (a,b,x1,y1)).2.2
  ·have eD:iop f (a,b,x1,y1)=giv (f (srd (a,b,x1,y1))):=by unfold iop;rw[hla,he];rfl
   rw[eD];have hh:=hr hL.1 hL.2 he
   exact askI_ok s1 p1 k1 c1 q1 l1 d1 sz1 pz1 kz1 cz1 qz1 lz1 dz1 x1 y1 _ _ a b _ W (ha.below hW) (hb.below hW) hL.1 hL.2 (ht.below hW) enter_one1 fun W4 i3 s3 p3 k3 c3 q3 l3 d3 j3 sz3 pz3 kz3 cz3 qz3 lz3 dz3 e3 hW4 hS=>
    one1_ok i3 s3 p3 k3 c3 q3 l3 d3 j3 sz3 pz3 kz3 cz3 qz3 lz3 dz3 e3 (w.heap.size+1) (w.heap.size+1+1) g cap _ _ W4 (hBv.below hW4) (hBo.below hW4) hS he hh.1 hh.2.1 hh.2.2 hfn fun W5 hW5 hS5=>
     hop hL.1 hL.2 he W5 i3 s3 p3 k3 c3 q3 l3 d3 j3 sz3 pz3 kz3 cz3 qz3 lz3 dz3 e3 ((hW.trans (hW4.mono hW.size)).trans (hW5.mono (hW.trans (hW4.mono hW.size)).size)) hS5
  ·have eD:iop f (a,b,x1,y1)=giv (srd (a,b,x1,y1)):=by unfold iop;rw[hla,he];rfl
   rw[eD]
   exact askI_ok s1 p1 k1 c1 q1 l1 d1 sz1 pz1 kz1 cz1 qz1 lz1 dz1 x1 y1 _ _ a b _ W (ha.below hW) (hb.below hW) hL.1 hL.2 (ht.below hW) enter_one1 fun W4 i3 s3 p3 k3 c3 q3 l3 d3 j3 sz3 pz3 kz3 cz3 qz3 lz3 dz3 e3 hW4 hS=>
    one1_empty i3 s3 p3 k3 c3 q3 l3 d3 j3 sz3 pz3 kz3 cz3 qz3 lz3 dz3 e3 (w.heap.size+1) _ _ W4 (hBv.below hW4) hS he
 ·have hla:ilarge (a,b,x1,y1)=true:=hL
  have ec:icode (a,b,x1,y1)=1:=by unfold icode;rw[hla];rfl
  have eD:iop f (a,b,x1,y1)=gzero:=by unfold iop;rw[hla];rfl
  rw[ec,eD];exact askI_large s1 p1 k1 c1 q1 l1 d1 sz1 pz1 kz1 cz1 qz1 lz1 dz1 x1 y1 _ _ a b W (ha.below hW) (hb.below hW) hL (ht.below hW)
theorem ebig_neg{x:Int×Tq}(h:ebig x=false):ebig (eneg x)=false:=by
 unfold eneg
 split
 case isTrue h0=>
  unfold ebig at h;rw[decide_eq_true h0] at h;exact h
 case isFalse h0=>
  unfold ebig;rw[decide_eq_false (by show ¬(-x.1=0);omega)];rfl
theorem enter_sneg(args:Array Value)(w:World):(callFunc 37 args).run Tryz.prog w=.ok (.enter 37 args) w:=call_enter Tryz.func37 (by kernel_rfl) rfl args w
theorem iNeg_ret{W:World}{B:Nat}{a0 a1 a2 a3 a4 a5 a6 a7 ev:Value}{tm:Array Value}{R:Ending→World→Prop}(h2:tm[2]?.getD undef=.pointer (some ⟨B,0,none⟩))(h3:tm[3]?.getD undef=ev)(hV:Box W B #[a0,a1,a2,a3,a4,a5,a6,a7])(hR:R (.returned (.tuple #[.agg #[a0,a1,a2,a3,a4,a5,a6,a7],ev])) W):
  bodyPost Tryz.prog Tryz.f14 R .ret {tmps:=tm,defers:=[]} W:=by
 obtain⟨g0,g1,g2,g3,g4,g5,g6,g7,_⟩:=hV.cells8;exact bodyPost_ret (v:=.tuple #[.agg #[a0,a1,a2,a3,a4,a5,a6,a7],ev]) (by simp [results,Tryz.results14,go_sem,h2,h3,g0,g1,g2,g3,g4,g5,g6,g7]) rfl hR
theorem iNeg_any(s1 p1 k1 c1 q1 l1 d1 sz1 pz1 kz1 cz1 qz1 lz1 dz1 x1 y1)(a b:Tq)(w:World)(ha:NRep w (.agg #[.bool s1,.slice p1 k1 c1,.slice q1 l1 d1]) a)(hb:NRep w (.agg #[.bool sz1,.slice pz1 kz1 cz1,.slice qz1 lz1 dz1]) b)(ht:TabOk w):
  Calls Tryz.prog 14 #[.agg #[.bool s1,.slice p1 k1 c1,.slice q1 l1 d1,.bool sz1,.slice pz1 kz1 cz1,.slice qz1 lz1 dz1,.bool x1,.bool y1]] w fun e w'=>∃s5 p5 k5 c5 q5 l5 d5 sz5 pz5 kz5 cz5 qz5 lz5 dz5 x5 y5,e=.returned (.tuple #[.agg #[.bool s5,.slice p5 k5 c5,.slice q5 l5 d5,.bool sz5,.slice pz5 kz5 cz5,.slice qz5 lz5 dz5,.bool x5,.bool y5],.int .i64 (icode (a,b,x1,y1))])∧Hid (GRep w' (.agg #[.bool s5,.slice p5 k5 c5,.slice q5 l5 d5,.bool sz5,.slice pz5 kz5 cz5,.slice qz5 lz5 dz5,.bool x5,.bool y5]) (iop sneg (a,b,x1,y1)))∧Bw w w':=by
 obtain⟨c,hc⟩:∃r,r=icode (a,b,x1,y1):=⟨_,rfl⟩;obtain⟨D,hD⟩:∃r,r=iop sneg (a,b,x1,y1):=⟨_,rfl⟩;rw[←hc,←hD]
 have HC:Hid (∀W,Bw w W→Calls Tryz.prog 36 #[.agg #[.bool s1,.slice p1 k1 c1,.slice q1 l1 d1,.bool sz1,.slice pz1 kz1 cz1,.slice qz1 lz1 dz1,.bool x1,.bool y1],.bool true,.func (.func 37) #[] #[]] W fun e w'=>∃s5 p5 k5 c5 q5 l5 d5 sz5 pz5 kz5 cz5 qz5 lz5 dz5 x5 y5,e=.returned (.tuple #[.agg #[.bool s5,.slice p5 k5 c5,.slice q5 l5 d5,.bool sz5,.slice pz5 kz5 cz5,.slice qz5 lz5 dz5,.bool x5,.bool y5],.int .i64 c])∧Hid (GRep w' (.agg #[.bool s5,.slice p5 k5 c5,.slice q5 l5 d5,.bool sz5,.slice pz5 kz5 cz5,.slice qz5 lz5 dz5,.bool x5,.bool y5]) D)∧Bw W w'):=by
  refine hid fun W hW=>?_
  rw[hc,hD];refine one_val s1 p1 k1 c1 q1 l1 d1 sz1 pz1 kz1 cz1 qz1 lz1 dz1 x1 y1 _ #[] sneg a b W (ha.below hW) (hb.below hW) (ht.below hW) enter_sneg (fun h1 h2 _=>?_) (fun h1 h2 _ W4 i3 s3 p3 k3 c3 q3 l3 d3 j3 sz3 pz3 kz3 cz3 qz3 lz3 dz3 e3 hW4 hS=>?_)
  ·exact⟨⟨((rdE_ok (inf:=y1) (g:=1) (.inl rfl) h2).le (by omega)).neg,((rdE_ok (inf:=x1) (g:=-1) (.inr rfl) h1).le (by omega)).neg⟩,⟨ebig_neg (ebig_rd h2),ebig_neg (ebig_rd h1)⟩,rfl⟩
  ·exact sneg_any i3 s3 p3 k3 c3 q3 l3 d3 j3 sz3 pz3 kz3 cz3 qz3 lz3 dz3 e3 _ 64 W4 hS ⟨rdE_ok (inf:=x1) (g:=-1) (.inr rfl) h1,rdE_ok (inf:=y1) (g:=1) (.inl rfl) h2⟩
 clear ha hb ht hc hD;go_enter Tryz.func14,Tryz.ntmps14;go_wp2_with fail;generalize hA:World.alloc _ _=W0;have HV:=hid (pre2_o hA nd8 nd8);clear hA;refine(HC.out _ HV.out.2.2).mono ?_;rintro e w1 ⟨s5,p5,k5,c5,q5,l5,d5,sz5,pz5,kz5,cz5,qz5,lz5,dz5,x5,y5,rfl,hG,hB1⟩;have HE:=hid (Ai (HV.out.2.1.below hB1) (HV.out.2.2.trans (hB1.mono HV.out.2.2.size)));clear hB1;obtain⟨g0,g1,g2,g3,g4,g5,g6,g7,f0,f1,f2,f3,f4,f5,f6,f7⟩:=HE.out.1.cells8;go_wp2_with fail;exact iNeg_ret rfl rfl (HE.out.1.stores [.bool s5,.slice p5 k5 c5,.slice q5 l5 d5,.bool sz5,.slice pz5 kz5 cz5,.slice qz5 lz5 dz5,.bool x5,.bool y5] rfl nd8) ⟨s5,p5,k5,c5,q5,l5,d5,sz5,pz5,kz5,cz5,qz5,lz5,dz5,x5,y5,rfl,hid (GRep.stores (k:=0) (l:=[.bool s5,.slice p5 k5 c5,.slice q5 l5 d5,.bool sz5,.slice pz5 kz5 cz5,.slice qz5 lz5 dz5,.bool x5,.bool y5]) hG.out HE.out.1 nd8),Below.stores (k:=0) (l:=[.bool s5,.slice p5 k5 c5,.slice q5 l5 d5,.bool sz5,.slice pz5 kz5 cz5,.slice qz5 lz5 dz5,.bool x5,.bool y5]) HE.out.2 (by omega)⟩
theorem neg_same{a b:Tq}{x y:Bool}(h1:large a.2.1 a.2.2=false)(h2:large b.2.1 b.2.2=false):
  (if (srd (a,b,x,y)).2.2 then giv (srd (a,b,x,y)) else giv (sneg (srd (a,b,x,y))))=japi (jminus (jof (a,b,x,y))):=by
 have ea:jrat (fneg (fr a))=outF (fneg (fr a)):=(QFit.of h1).neg.jrat;have eb:jrat (fneg (fr b))=outF (fneg (fr b)):=(QFit.of h2).neg.jrat
 cases x<;>cases y
 ·have e:(srd (a,b,false,false)).2.2=decide (0 < fcmp (fr a) (fr b)):=by
   show decide (0 < ecmp (0,fr a) (0,fr b))=_;rw[show ecmp (0,fr a) (0,fr b)=fcmp (fr a) (fr b) by unfold ecmp;simp]
  rw[giv_srd h1 h2,e];show _=japi (jminus (if decide (0 < fcmp (fr a) (fr b)) then jnone else (fr a,fr b,false,false,false)));rw[show jof (a,b,false,false)=(if decide (0 < fcmp (fr a) (fr b)) then jnone else (fr a,fr b,false,false,false)) from rfl]
  by_cases hc:0 < fcmp (fr a) (fr b)
  ·rw[decide_eq_true hc];rfl
  ·rw[decide_eq_false hc];show(outF (fneg (fr b)),outF (fneg (fr a)),false,false)=(jrat (fneg (fr b)),jrat (fneg (fr a)),false,false);rw[ea,eb]
 ·show((false,0,0),outF (fneg (fr a)),true,false)=(jrat (fneg (false,0,0)),jrat (fneg (fr a)),true,false);rw[ea,fneg_zero,jrat_zero]
 ·show(outF (fneg (fr b)),(false,0,0),false,true)=(jrat (fneg (fr b)),jrat (fneg (false,0,0)),false,true);rw[eb,fneg_zero,jrat_zero]
 ·show((false,0,0),(false,0,0),true,true)=(jrat (fneg (false,0,0)),jrat (fneg (false,0,0)),true,true);rw[fneg_zero,jrat_zero]
def sminus (x y:Ts):Ts:=splus x (sneg y)
theorem EOk.nega{A:Nat}{x:Int×Tq}(h:EOk A x):EOk A (eneg x):=by
 unfold eneg
 split
 case isTrue h0=>
  refine⟨fun _=>?_,fun h1=>absurd rfl h1,h.bn,h.bd⟩;obtain⟨s,n,d,hd,e⟩:=h.fin h0;exact⟨!s,n,d,hd,by show fneg x.2=_;rw[e,fneg_frac hd]⟩
 case isFalse h0=>
  refine⟨fun h1=>?_,fun _=>⟨?_,rfl⟩,Nat.pow_pos W32_pos,Nat.pow_pos W32_pos⟩
  ·have h1':-x.1=0:=h1;omega
  ·show -x.1=1∨-x.1=-1
   rcases(h.inf h0).1 with e | e<;>rw[e]<;>simp
theorem sminus_ret{W:World}{B:Nat}{a0 a1 a2 a3 a4 a5 a6 a7 a8:Value}{tm:Array Value}{R:Ending→World→Prop}(h2:tm[4]?.getD undef=.pointer (some ⟨B,0,none⟩))(hV:Box W B #[a0,a1,a2,a3,a4,a5,a6,a7,a8])(hR:R (.returned (.agg #[a0,a1,a2,a3,a4,a5,a6,a7,a8])) W):
  bodyPost Tryz.prog Tryz.f35 R .ret {tmps:=tm,defers:=[]} W:=by
 obtain⟨g0,g1,g2,g3,g4,g5,g6,g7,g8,_⟩:=hV.cells9;exact bodyPost_ret (v:=.agg #[a0,a1,a2,a3,a4,a5,a6,a7,a8]) (by simp [results,Tryz.results35,go_sem,h2,g0,g1,g2,g3,g4,g5,g6,g7,g8]) rfl hR
theorem sminus_any(i1 s1 p1 k1 c1 q1 l1 d1 j1 sz1 pz1 kz1 cz1 qz1 lz1 dz1 e1 i2 s2 p2 k2 c2 q2 l2 d2 j2 sz2 pz2 kz2 cz2 qz2 lz2 dz2 e2)(x y:Ts)(w:World)(h:SRep w (.agg #[.int .i64 i1,.bool s1,.slice p1 k1 c1,.slice q1 l1 d1,.int .i64 j1,.bool sz1,.slice pz1 kz1 cz1,.slice qz1 lz1 dz1,.bool e1]) x)(h':SRep w (.agg #[.int .i64 i2,.bool s2,.slice p2 k2 c2,.slice q2 l2 d2,.int .i64 j2,.bool sz2,.slice pz2 kz2 cz2,.slice qz2 lz2 dz2,.bool e2]) y)(hx:EOk 1000 x.1∧EOk 1000 x.2.1)(hy:EOk 1000 y.1∧EOk 1000 y.2.1)(ht:TabOk w):
  Calls Tryz.prog 35 #[.agg #[.int .i64 i1,.bool s1,.slice p1 k1 c1,.slice q1 l1 d1,.int .i64 j1,.bool sz1,.slice pz1 kz1 cz1,.slice qz1 lz1 dz1,.bool e1],.agg #[.int .i64 i2,.bool s2,.slice p2 k2 c2,.slice q2 l2 d2,.int .i64 j2,.bool sz2,.slice pz2 kz2 cz2,.slice qz2 lz2 dz2,.bool e2]] w fun e w'=>∃i3 s3 p3 k3 c3 q3 l3 d3 j3 sz3 pz3 kz3 cz3 qz3 lz3 dz3 e3,e=.returned (.agg #[.int .i64 i3,.bool s3,.slice p3 k3 c3,.slice q3 l3 d3,.int .i64 j3,.bool sz3,.slice pz3 kz3 cz3,.slice qz3 lz3 dz3,.bool e3])∧Hid (SRep w' (.agg #[.int .i64 i3,.bool s3,.slice p3 k3 c3,.slice q3 l3 d3,.int .i64 j3,.bool sz3,.slice pz3 kz3 cz3,.slice qz3 lz3 dz3,.bool e3]) (sminus x y))∧Bw w w':=by
 have HN:=hid (fun (W:World) (hW:Bw w W)=>sneg_any i2 s2 p2 k2 c2 q2 l2 d2 j2 sz2 pz2 kz2 cz2 qz2 lz2 dz2 e2 y 1000 W (h'.below hW) hy);have HP:=hid (fun (W:World) i3 s3 p3 k3 c3 q3 l3 d3 j3 sz3 pz3 kz3 cz3 qz3 lz3 dz3 e3 (hW:Bw w W) (hs:SRep W (.agg #[.int .i64 i3,.bool s3,.slice p3 k3 c3,.slice q3 l3 d3,.int .i64 j3,.bool sz3,.slice pz3 kz3 cz3,.slice qz3 lz3 dz3,.bool e3]) (sneg y))=>splus_any i1 s1 p1 k1 c1 q1 l1 d1 j1 sz1 pz1 kz1 cz1 qz1 lz1 dz1 e1 i3 s3 p3 k3 c3 q3 l3 d3 j3 sz3 pz3 kz3 cz3 qz3 lz3 dz3 e3 x (sneg y) W (h.below hW) hs hx ⟨hy.2.nega,hy.1.nega⟩ (ht.below hW));obtain⟨r,hr⟩:∃r,r=sminus x y:=⟨_,rfl⟩;rw[←hr]
 change Hid (∀(W:World) i3 s3 p3 k3 c3 q3 l3 d3 j3 sz3 pz3 kz3 cz3 qz3 lz3 dz3 e3,Bw w W→SRep W (.agg #[.int .i64 i3,.bool s3,.slice p3 k3 c3,.slice q3 l3 d3,.int .i64 j3,.bool sz3,.slice pz3 kz3 cz3,.slice qz3 lz3 dz3,.bool e3]) (sneg y)→Calls _ _ _ W fun e w'=>∃i5 s5 p5 k5 c5 q5 l5 d5 j5 sz5 pz5 kz5 cz5 qz5 lz5 dz5 e5,e=.returned (.agg #[.int .i64 i5,.bool s5,.slice p5 k5 c5,.slice q5 l5 d5,.int .i64 j5,.bool sz5,.slice pz5 kz5 cz5,.slice qz5 lz5 dz5,.bool e5])∧Hid (SRep w' (.agg #[.int .i64 i5,.bool s5,.slice p5 k5 c5,.slice q5 l5 d5,.int .i64 j5,.bool sz5,.slice pz5 kz5 cz5,.slice qz5 lz5 dz5,.bool e5]) (sminus x y))∧Bw W w') at HP
 rw[←hr] at HP;obtain⟨n,hn⟩:∃r,r=sneg y:=⟨_,rfl⟩;rw[←hn] at HN HP;clear h h' hx hy ht hr hn;go_enter Tryz.func35,Tryz.ntmps35;go_wp2_with fail;generalize hA:World.alloc _ _=W0;have HV:=hid (pre3_o hA nd_S nd_S nd_S);clear hA;have HQ:=hid (QQ.i2 (cs:=[.int .i64 i1,.bool s1,.slice p1 k1 c1,.slice q1 l1 d1,.int .i64 j1,.bool sz1,.slice pz1 kz1 cz1,.slice qz1 lz1 dz1,.bool e1]) (cs':=[.int .i64 i2,.bool s2,.slice p2 k2 c2,.slice q2 l2 d2,.int .i64 j2,.bool sz2,.slice pz2 kz2 cz2,.slice qz2 lz2 dz2,.bool e2]) HV.out.1 HV.out.2.1 HV.out.2.2.2);have HS:=hid (fun (w':World) (hb:QQ w [(w.heap.size,[.int .i64 i1,.bool s1,.slice p1 k1 c1,.slice q1 l1 d1,.int .i64 j1,.bool sz1,.slice pz1 kz1 cz1,.slice qz1 lz1 dz1,.bool e1]),(w.heap.size+1,[.int .i64 i2,.bool s2,.slice p2 k2 c2,.slice q2 l2 d2,.int .i64 j2,.bool sz2,.slice pz2 kz2 cz2,.slice qz2 lz2 dz2,.bool e2])] w')=>hb.s_9_9);have HA:Hid (Apart [(w.heap.size,[.int .i64 i1,.bool s1,.slice p1 k1 c1,.slice q1 l1 d1,.int .i64 j1,.bool sz1,.slice pz1 kz1 cz1,.slice qz1 lz1 dz1,.bool e1]),(w.heap.size+1,[.int .i64 i2,.bool s2,.slice p2 k2 c2,.slice q2 l2 d2,.int .i64 j2,.bool sz2,.slice pz2 kz2 cz2,.slice qz2 lz2 dz2,.bool e2])] (w.heap.size+1+1)):=hid (ne2 (by omega) (by omega));have HI:Hid (w.heap.size≤w.heap.size+1+1):=hid (by omega)
 go_region_held3 (fun w'=>w'.cell? ⟨w.heap.size,0,none⟩=some (.int .i64 i1)∧w'.cell? ⟨w.heap.size,1,none⟩=some (.bool s1)∧w'.cell? ⟨w.heap.size,2,none⟩=some (.slice p1 k1 c1)∧w'.cell? ⟨w.heap.size,3,none⟩=some (.slice q1 l1 d1)∧w'.cell? ⟨w.heap.size,4,none⟩=some (.int .i64 j1)∧w'.cell? ⟨w.heap.size,5,none⟩=some (.bool sz1)∧w'.cell? ⟨w.heap.size,6,none⟩=some (.slice pz1 kz1 cz1)∧w'.cell? ⟨w.heap.size,7,none⟩=some (.slice qz1 lz1 dz1)∧w'.cell? ⟨w.heap.size,8,none⟩=some (.bool e1)∧w'.cell? ⟨w.heap.size+1,0,none⟩=some (.int .i64 i2)∧w'.cell? ⟨w.heap.size+1,1,none⟩=some (.bool s2)∧w'.cell? ⟨w.heap.size+1,2,none⟩=some (.slice p2 k2 c2)∧w'.cell? ⟨w.heap.size+1,3,none⟩=some (.slice q2 l2 d2)∧w'.cell? ⟨w.heap.size+1,4,none⟩=some (.int .i64 j2)∧w'.cell? ⟨w.heap.size+1,5,none⟩=some (.bool sz2)∧w'.cell? ⟨w.heap.size+1,6,none⟩=some (.slice pz2 kz2 cz2)∧w'.cell? ⟨w.heap.size+1,7,none⟩=some (.slice qz2 lz2 dz2)∧w'.cell? ⟨w.heap.size+1,8,none⟩=some (.bool e2)∧Hid (QQ w [(w.heap.size,[.int .i64 i1,.bool s1,.slice p1 k1 c1,.slice q1 l1 d1,.int .i64 j1,.bool sz1,.slice pz1 kz1 cz1,.slice qz1 lz1 dz1,.bool e1]),(w.heap.size+1,[.int .i64 i2,.bool s2,.slice p2 k2 c2,.slice q2 l2 d2,.int .i64 j2,.bool sz2,.slice pz2 kz2 cz2,.slice qz2 lz2 dz2,.bool e2])] w'))
  (first | (refine HS.out _ ?_;first | (with_reducible exact HQ.out.drew) | (with_reducible assumption) | (with_reducible refine QQ.st9 ?_ HA.out HI.out;assumption)))
  (first
   | (go_at_call 37;refine(HN.out _ HQ.out.drew.bel).mono ?_;rintro e wa ⟨i3,s3,p3,k3,c3,q3,l3,d3,j3,sz3,pz3,kz3,cz3,qz3,lz3,dz3,e3,rfl,hE1,hB1⟩;have hQ1:=HQ.out.drew.call hB1;have hV1:=(HV.out.2.2.1.drew).below hB1)
   | (go_at_call 38;refine(HP.out _ i3 s3 p3 k3 c3 q3 l3 d3 j3 sz3 pz3 kz3 cz3 qz3 lz3 dz3 e3 hQ1.bel hE1.out).mono ?_;rintro e wb ⟨i5,s5,p5,k5,c5,q5,l5,d5,j5,sz5,pz5,kz5,cz5,qz5,lz5,dz5,e5,rfl,hE2,hB2⟩;have hQ2:=hQ1.call hB2;have hV2:=hV1.below hB2;obtain⟨g0,g1,g2,g3,g4,g5,g6,g7,g8,f0,f1,f2,f3,f4,f5,f6,f7,f8⟩:=hV2.cells9))
 rename_i hHeld
 clear hHeld;have HE:=hid (Ai hV2 (Ai hE2.out hQ2.bel));clear hQ1 hQ2 hV1 hV2 hB1 hB2 hE1 hE2;go_wp2_with fail;exact sminus_ret rfl (HE.out.1.stores [.int .i64 i5,.bool s5,.slice p5 k5 c5,.slice q5 l5 d5,.int .i64 j5,.bool sz5,.slice pz5 kz5 cz5,.slice qz5 lz5 dz5,.bool e5] rfl nd_S) ⟨i5,s5,p5,k5,c5,q5,l5,d5,j5,sz5,pz5,kz5,cz5,qz5,lz5,dz5,e5,rfl,hid (SRep.stores (k:=0) (l:=[.int .i64 i5,.bool s5,.slice p5 k5 c5,.slice q5 l5 d5,.int .i64 j5,.bool sz5,.slice pz5 kz5 cz5,.slice qz5 lz5 dz5,.bool e5]) HE.out.2.1 HE.out.1 nd_S),Below.stores (k:=0) (l:=[.int .i64 i5,.bool s5,.slice p5 k5 c5,.slice q5 l5 d5,.int .i64 j5,.bool sz5,.slice pz5 kz5 cz5,.slice qz5 lz5 dz5,.bool e5]) HE.out.2.2 (by omega)⟩
theorem enter_sminus(args:Array Value)(w:World):(callFunc 35 args).run Tryz.prog w=.ok (.enter 35 args) w:=call_enter Tryz.func35 (by kernel_rfl) rfl args w
theorem iSub_ret{W:World}{B:Nat}{a0 a1 a2 a3 a4 a5 a6 a7 ev:Value}{tm:Array Value}{R:Ending→World→Prop}(h2:tm[6]?.getD undef=.pointer (some ⟨B,0,none⟩))(h3:tm[7]?.getD undef=ev)(hV:Box W B #[a0,a1,a2,a3,a4,a5,a6,a7])(hR:R (.returned (.tuple #[.agg #[a0,a1,a2,a3,a4,a5,a6,a7],ev])) W):
  bodyPost Tryz.prog Tryz.f13 R .ret {tmps:=tm,defers:=[]} W:=by
 obtain⟨g0,g1,g2,g3,g4,g5,g6,g7,_⟩:=hV.cells8;exact bodyPost_ret (v:=.tuple #[.agg #[a0,a1,a2,a3,a4,a5,a6,a7],ev]) (by simp [results,Tryz.results13,go_sem,h2,h3,g0,g1,g2,g3,g4,g5,g6,g7]) rfl hR
theorem iSub_any(s1 p1 k1 c1 q1 l1 d1 sz1 pz1 kz1 cz1 qz1 lz1 dz1 x1 y1 s2 p2 k2 c2 q2 l2 d2 sz2 pz2 kz2 cz2 qz2 lz2 dz2 x2 y2 p)(a b a' b':Tq)(w:World)(ha:NRep w (.agg #[.bool s1,.slice p1 k1 c1,.slice q1 l1 d1]) a)(hb:NRep w (.agg #[.bool sz1,.slice pz1 kz1 cz1,.slice qz1 lz1 dz1]) b)(ha':NRep w (.agg #[.bool s2,.slice p2 k2 c2,.slice q2 l2 d2]) a')(hb':NRep w (.agg #[.bool sz2,.slice pz2 kz2 cz2,.slice qz2 lz2 dz2]) b')(ht:TabOk w):
  Calls Tryz.prog 13 #[.agg #[.bool s1,.slice p1 k1 c1,.slice q1 l1 d1,.bool sz1,.slice pz1 kz1 cz1,.slice qz1 lz1 dz1,.bool x1,.bool y1],.agg #[.bool s2,.slice p2 k2 c2,.slice q2 l2 d2,.bool sz2,.slice pz2 kz2 cz2,.slice qz2 lz2 dz2,.bool x2,.bool y2],.int .i64 p] w fun e w'=>∃s5 p5 k5 c5 q5 l5 d5 sz5 pz5 kz5 cz5 qz5 lz5 dz5 x5 y5,e=.returned (.tuple #[.agg #[.bool s5,.slice p5 k5 c5,.slice q5 l5 d5,.bool sz5,.slice pz5 kz5 cz5,.slice qz5 lz5 dz5,.bool x5,.bool y5],.int .i64 (rcode p sminus (a,b,x1,y1) (a',b',x2,y2))])∧Hid (GRep w' (.agg #[.bool s5,.slice p5 k5 c5,.slice q5 l5 d5,.bool sz5,.slice pz5 kz5 cz5,.slice qz5 lz5 dz5,.bool x5,.bool y5]) (rval p sminus (a,b,x1,y1) (a',b',x2,y2)))∧Bw w w':=by
 have HC:=hid (fun (W:World) (hW:Bw w W)=>
  rounded_gen s1 p1 k1 c1 q1 l1 d1 sz1 pz1 kz1 cz1 qz1 lz1 dz1 x1 y1 s2 p2 k2 c2 q2 l2 d2 sz2 pz2 kz2 cz2 qz2 lz2 dz2 x2 y2 p 35 #[] sminus a b a' b' W (ha.below hW) (hb.below hW) (ha'.below hW) (hb'.below hW) (ht.below hW) enter_sminus
   (fun h1 h2 h3 h4 _ _=>⟨(rdE_ok (.inr rfl) h1).plus (rdE_ok (.inl rfl) h4).nega,(rdE_ok (.inl rfl) h2).plus (rdE_ok (.inr rfl) h3).nega⟩)
   (fun h1 h2 h3 h4 _ _ W' i3 s3 p3 k3 c3 q3 l3 d3 j3 sz3 pz3 kz3 cz3 qz3 lz3 dz3 e3 i4 s4 p4 k4 c4 q4 l4 d4 j4 sz4 pz4 kz4 cz4 qz4 lz4 dz4 e4 hW' hS1 hS2=>sminus_any i3 s3 p3 k3 c3 q3 l3 d3 j3 sz3 pz3 kz3 cz3 qz3 lz3 dz3 e3 i4 s4 p4 k4 c4 q4 l4 d4 j4 sz4 pz4 kz4 cz4 qz4 lz4 dz4 e4 (srd (a,b,x1,y1)) (srd (a',b',x2,y2)) W' hS1 hS2
    ⟨(rdE_ok (.inr rfl) h1).le (by omega),(rdE_ok (.inl rfl) h2).le (by omega)⟩ ⟨(rdE_ok (.inr rfl) h3).le (by omega),(rdE_ok (.inl rfl) h4).le (by omega)⟩ ((ht.below hW).below hW')))
 obtain⟨D,hD⟩:∃D,D=rval p sminus (a,b,x1,y1) (a',b',x2,y2):=⟨_,rfl⟩;obtain⟨c,hc⟩:∃D,D=rcode p sminus (a,b,x1,y1) (a',b',x2,y2):=⟨_,rfl⟩;rw[←hD,←hc] at HC ⊢;clear ha hb ha' hb' ht hD hc;obtain⟨pi,hpi⟩:∃pi:Int,pi=p:=⟨_,rfl⟩;rw[←hpi] at HC ⊢;clear hpi;go_enter Tryz.func13,Tryz.ntmps13;go_wp2_with fail;generalize hA:World.alloc _ _=W0;have HV:=hid (pre3_o hA nd8 nd8 nd8);clear hA;refine(HC.out _ HV.out.2.2.2).mono ?_;rintro e w1 ⟨s5,p5,k5,c5,q5,l5,d5,sz5,pz5,kz5,cz5,qz5,lz5,dz5,x5,y5,rfl,hG,hB1⟩;have HE:=hid (Ai (HV.out.2.2.1.below hB1) (HV.out.2.2.2.trans (hB1.mono HV.out.2.2.2.size)));clear hB1;obtain⟨g0,g1,g2,g3,g4,g5,g6,g7,f0,f1,f2,f3,f4,f5,f6,f7⟩:=HE.out.1.cells8;go_wp2_with fail;exact iSub_ret rfl rfl (HE.out.1.stores [.bool s5,.slice p5 k5 c5,.slice q5 l5 d5,.bool sz5,.slice pz5 kz5 cz5,.slice qz5 lz5 dz5,.bool x5,.bool y5] rfl nd8) ⟨s5,p5,k5,c5,q5,l5,d5,sz5,pz5,kz5,cz5,qz5,lz5,dz5,x5,y5,rfl,hid (GRep.stores (k:=0) (l:=[.bool s5,.slice p5 k5 c5,.slice q5 l5 d5,.bool sz5,.slice pz5 kz5 cz5,.slice qz5 lz5 dz5,.bool x5,.bool y5]) hG.out HE.out.1 nd8),Below.stores (k:=0) (l:=[.bool s5,.slice p5 k5 c5,.slice q5 l5 d5,.bool sz5,.slice pz5 kz5 cz5,.slice qz5 lz5 dz5,.bool x5,.bool y5]) HE.out.2 (by omega)⟩
theorem Sim.rnd{S:Ts}{J:Tj}(h:Sim S J)(p:Nat):jbig (jround J p)=sbig (sround S p)∧japi (jround J p)=giv (sround S p):=by
 obtain⟨A,B,x,y,rfl,rfl⟩:=h;exact rnd_ends
theorem enter_stimes(args:Array Value)(w:World):(callFunc 22 args).run Tryz.prog w=.ok (.enter 22 args) w:=call_enter Tryz.func22 (by kernel_rfl) rfl args w
theorem iMul_ret{W:World}{B:Nat}{a0 a1 a2 a3 a4 a5 a6 a7 ev:Value}{tm:Array Value}{R:Ending→World→Prop}(h2:tm[6]?.getD undef=.pointer (some ⟨B,0,none⟩))(h3:tm[7]?.getD undef=ev)(hV:Box W B #[a0,a1,a2,a3,a4,a5,a6,a7])(hR:R (.returned (.tuple #[.agg #[a0,a1,a2,a3,a4,a5,a6,a7],ev])) W):
  bodyPost Tryz.prog Tryz.f7 R .ret {tmps:=tm,defers:=[]} W:=by
 obtain⟨g0,g1,g2,g3,g4,g5,g6,g7,_⟩:=hV.cells8;exact bodyPost_ret (v:=.tuple #[.agg #[a0,a1,a2,a3,a4,a5,a6,a7],ev]) (by simp [results,Tryz.results7,go_sem,h2,h3,g0,g1,g2,g3,g4,g5,g6,g7]) rfl hR
set_option maxHeartbeats 2000000 in
set_option maxRecDepth 100000 in
theorem iMul_any(s1 p1 k1 c1 q1 l1 d1 sz1 pz1 kz1 cz1 qz1 lz1 dz1 x1 y1 s2 p2 k2 c2 q2 l2 d2 sz2 pz2 kz2 cz2 qz2 lz2 dz2 x2 y2 p)(a b a' b':Tq)(w:World)(ha:NRep w (.agg #[.bool s1,.slice p1 k1 c1,.slice q1 l1 d1]) a)(hb:NRep w (.agg #[.bool sz1,.slice pz1 kz1 cz1,.slice qz1 lz1 dz1]) b)(ha':NRep w (.agg #[.bool s2,.slice p2 k2 c2,.slice q2 l2 d2]) a')(hb':NRep w (.agg #[.bool sz2,.slice pz2 kz2 cz2,.slice qz2 lz2 dz2]) b')(ht:TabOk w):
  Calls Tryz.prog 7 #[.agg #[.bool s1,.slice p1 k1 c1,.slice q1 l1 d1,.bool sz1,.slice pz1 kz1 cz1,.slice qz1 lz1 dz1,.bool x1,.bool y1],.agg #[.bool s2,.slice p2 k2 c2,.slice q2 l2 d2,.bool sz2,.slice pz2 kz2 cz2,.slice qz2 lz2 dz2,.bool x2,.bool y2],.int .i64 p] w fun e w'=>∃s5 p5 k5 c5 q5 l5 d5 sz5 pz5 kz5 cz5 qz5 lz5 dz5 x5 y5,e=.returned (.tuple #[.agg #[.bool s5,.slice p5 k5 c5,.slice q5 l5 d5,.bool sz5,.slice pz5 kz5 cz5,.slice qz5 lz5 dz5,.bool x5,.bool y5],.int .i64 (rcode p stm (a,b,x1,y1) (a',b',x2,y2))])∧Hid (GRep w' (.agg #[.bool s5,.slice p5 k5 c5,.slice q5 l5 d5,.bool sz5,.slice pz5 kz5 cz5,.slice qz5 lz5 dz5,.bool x5,.bool y5]) (rval p stm (a,b,x1,y1) (a',b',x2,y2)))∧Bw w w':=by
 have HC:=hid (fun (W:World) (hW:Bw w W)=>
  rounded_gen s1 p1 k1 c1 q1 l1 d1 sz1 pz1 kz1 cz1 qz1 lz1 dz1 x1 y1 s2 p2 k2 c2 q2 l2 d2 sz2 pz2 kz2 cz2 qz2 lz2 dz2 x2 y2 p 22 #[] stm a b a' b' W (ha.below hW) (hb.below hW) (ha'.below hW) (hb'.below hW) (ht.below hW) enter_stimes
   (fun h1 h2 h3 h4 h5 h6=>(stm_ok ⟨rdE_ok (.inr rfl) h1,rdE_ok (.inl rfl) h2⟩ ⟨rdE_ok (.inr rfl) h3,rdE_ok (.inl rfl) h4⟩ (srd_le h5) (srd_le h6)).2)
   (fun h1 h2 h3 h4 h5 h6 W' i3 s3 p3 k3 c3 q3 l3 d3 j3 sz3 pz3 kz3 cz3 qz3 lz3 dz3 e3 i4 s4 p4 k4 c4 q4 l4 d4 j4 sz4 pz4 kz4 cz4 qz4 lz4 dz4 e4 hW' hS1 hS2=>stimes_any i3 s3 p3 k3 c3 q3 l3 d3 j3 sz3 pz3 kz3 cz3 qz3 lz3 dz3 e3 i4 s4 p4 k4 c4 q4 l4 d4 j4 sz4 pz4 kz4 cz4 qz4 lz4 dz4 e4 (srd (a,b,x1,y1)) (srd (a',b',x2,y2)) W' hS1 hS2 ⟨rdE_ok (.inr rfl) h1,rdE_ok (.inl rfl) h2⟩ ⟨rdE_ok (.inr rfl) h3,rdE_ok (.inl rfl) h4⟩ ((ht.below hW).below hW')))
 obtain⟨D,hD⟩:∃D,D=rval p stm (a,b,x1,y1) (a',b',x2,y2):=⟨_,rfl⟩;obtain⟨c,hc⟩:∃D,D=rcode p stm (a,b,x1,y1) (a',b',x2,y2):=⟨_,rfl⟩;rw[←hD,←hc] at HC ⊢;clear ha hb ha' hb' ht hD hc;obtain⟨pi,hpi⟩:∃pi:Int,pi=p:=⟨_,rfl⟩;rw[←hpi] at HC ⊢;clear hpi;go_enter Tryz.func7,Tryz.ntmps7;go_wp2_with fail;generalize hA:World.alloc _ _=W0;have HV:=hid (pre3_o hA nd8 nd8 nd8);clear hA;refine(HC.out _ HV.out.2.2.2).mono ?_;rintro e w1 ⟨s5,p5,k5,c5,q5,l5,d5,sz5,pz5,kz5,cz5,qz5,lz5,dz5,x5,y5,rfl,hG,hB1⟩;have HE:=hid (And.intro (HV.out.2.2.1.below hB1) (HV.out.2.2.2.trans (hB1.mono HV.out.2.2.2.size)));clear hB1;obtain⟨g0,g1,g2,g3,g4,g5,g6,g7,f0,f1,f2,f3,f4,f5,f6,f7⟩:=HE.out.1.cells8;go_wp2_with fail;exact iMul_ret rfl rfl (HE.out.1.stores [.bool s5,.slice p5 k5 c5,.slice q5 l5 d5,.bool sz5,.slice pz5 kz5 cz5,.slice qz5 lz5 dz5,.bool x5,.bool y5] rfl nd8) ⟨s5,p5,k5,c5,q5,l5,d5,sz5,pz5,kz5,cz5,qz5,lz5,dz5,x5,y5,rfl,hid (GRep.stores (k:=0) (l:=[.bool s5,.slice p5 k5 c5,.slice q5 l5 d5,.bool sz5,.slice pz5 kz5 cz5,.slice qz5 lz5 dz5,.bool x5,.bool y5]) hG.out HE.out.1 nd8),Below.stores (k:=0) (l:=[.bool s5,.slice p5 k5 c5,.slice q5 l5 d5,.bool sz5,.slice pz5 kz5 cz5,.slice qz5 lz5 dz5,.bool x5,.bool y5]) HE.out.2 (by omega)⟩
structure ROp (f:Ts→Ts→Ts) (g:Tj→Tj→Tj):Prop where
 sim:∀{S T:Ts} {J K:Tj},Sim S J→Sim T K→Sim (f S T) (g J K)
 e1:∀K:Tj,g jnone K=jnone
 e2:∀J:Tj,g J jnone=jnone
 wide:∀{J K:Tj},JGood J→JGood K→JW 400 (g J K)
theorem rop_plus:ROp splus jplus:=⟨Sim.plus,fun _=>rfl,fun J=>by unfold jplus;rw[show(jnone:Tj).2.2.2.2=true from rfl,Bool.or_true];rfl,fun h h'=>JW.plus (by omega) h h'⟩
theorem rop_minus:ROp sminus (fun J K=>jplus J (jminus K)):=⟨fun h h'=>h.plus h'.neg,fun _=>rfl,fun J=>by show jplus J (jminus jnone)=jnone;unfold jplus;rw[show(jminus jnone:Tj).2.2.2.2=true from rfl,Bool.or_true];rfl,fun h h'=>JW.plus (by omega) h h'.neg⟩
theorem rop_code{f:Ts→Ts→Ts}{g:Tj→Tj→Tj}(hR:ROp f g)(p:Int){a b a' b':Tq}{x y x' y':Bool}(h:(ilarge (a,b,x,y) || ilarge (a',b',x',y'))=false)(hv:prec p=true):
  rcode p f (a,b,x,y) (a',b',x',y')=(if jbig (jround (g (jof (a,b,x,y)) (jof (a',b',x',y'))) p.toNat) then 1 else 0)∧
  rval p f (a,b,x,y) (a',b',x',y')=(if jbig (jround (g (jof (a,b,x,y)) (jof (a',b',x',y'))) p.toNat) then gzero else japi (jround (g (jof (a,b,x,y)) (jof (a',b',x',y'))) p.toNat)):=by
 unfold rcode rval b2code b2val;have hl:=h;rw[Bool.or_eq_false_iff] at hl;have hl1:(large a.2.1 a.2.2 || large b.2.1 b.2.2)=false:=hl.1;have hl2:(large a'.2.1 a'.2.2 || large b'.2.1 b'.2.2)=false:=hl.2;rw[Bool.or_eq_false_iff] at hl1 hl2;rw[h,hv];cases he:(srd (a,b,x,y)).2.2
 ·cases he':(srd (a',b',x',y')).2.2
  ·have hs:=(hR.sim (Sim.of he) (Sim.of he')).rnd p.toNat;rw[hs.1,hs.2];exact⟨rfl,rfl⟩
  ·rw[jof_out he',hR.e2,jbig_none];refine⟨rfl,?_⟩;show giv (srd (a',b',x',y'))=_;rw[giv_srd hl2.1 hl2.2,jof_out he'];rfl
 ·rw[jof_out he,hR.e1,jbig_none];refine⟨rfl,?_⟩;show giv (srd (a,b,x,y))=_;rw[giv_srd hl1.1 hl1.2,jof_out he];rfl
theorem rop_ok{f:Ts→Ts→Ts}{g:Tj→Tj→Tj}(hR:ROp f g)(p:Int){a b a' b':Tq}{x y x' y':Bool}(h:rcode p f (a,b,x,y) (a',b',x',y')=0):∃r,JGood r∧rval p f (a,b,x,y) (a',b',x',y')=japi r:=by
 cases hL:(ilarge (a,b,x,y) || ilarge (a',b',x',y'))
 ·cases hv:prec p
  ·rw[(rop_arg hL hv).1] at h;exact absurd h (by decide)
  ·have hc:=rop_code hR p hL hv;have hl:=hL;rw[Bool.or_eq_false_iff] at hl;have hl1:(large a.2.1 a.2.2 || large b.2.1 b.2.2)=false:=hl.1;have hl2:(large a'.2.1 a'.2.2 || large b'.2.1 b'.2.2)=false:=hl.2;rw[Bool.or_eq_false_iff] at hl1 hl2;rw[hc.1] at h;rw[hc.2];have hw:=hR.wide (JGood.of (x:=x) (y:=y) hl1.1 hl1.2) (JGood.of (x:=x') (y:=y') hl2.1 hl2.2);generalize g (jof (a,b,x,y)) (jof (a',b',x',y'))=r at *;cases hb:jbig (jround r p.toNat)
   ·refine⟨jround r p.toNat,?_,rfl⟩
    rcases hw with rfl | ⟨hf,_⟩
    ·exact .inl rfl
    ·exact hf.round _ hb
   ·rw[hb] at h;exact absurd h (by decide)
 ·rw[(rop_large hL).1] at h;exact absurd h (by decide)
theorem b_one(A:Nat)(h:A≠0):1 < B16 ^ A:=Nat.one_lt_pow h (by decide)
theorem b_pos(A:Nat):0 < B16 ^ A:=Nat.pow_pos (by decide)
def TBd (A:Nat) (t:Int×Tq):Prop:=t.2.2.1 < B16 ^ A∧den1 t.2.2.2 < B16 ^ A
theorem TBd.inf(A:Nat)(h:A≠0)(i:Int):TBd A (i,false,0,0):=⟨b_pos A,b_one A h⟩
theorem zrel.raw{P lo:Tq}(h:zrel P false lo)(hP:IsFr P):lo=(P.1,P.2.1,lo.2.2)∧den1 lo.2.2=P.2.2:=by
 rcases h with rfl | ⟨rfl,rfl⟩
 ·exact⟨rfl,den1_self hP.pos⟩
 ·exact⟨rfl,rfl⟩
theorem rc_both{f:Ts→Ts→Ts}{a b a' b':Tq}{x y x' y':Bool}{p:Int}(h:(ilarge (a,b,x,y) || ilarge (a',b',x',y'))=false)(hv:prec p=true)(he:(srd (a,b,x,y)).2.2=false)(he':(srd (a',b',x',y')).2.2=false):
  rcode p f (a,b,x,y) (a',b',x',y')=(if sbig (sround (f (srd (a,b,x,y)) (srd (a',b',x',y'))) p.toNat) then 1 else 0)∧rval p f (a,b,x,y) (a',b',x',y')=(if sbig (sround (f (srd (a,b,x,y)) (srd (a',b',x',y'))) p.toNat) then gzero else giv (sround (f (srd (a,b,x,y)) (srd (a',b',x',y'))) p.toNat)):=by
 unfold rcode rval b2code b2val;rw[h,hv,he,he'];exact⟨rfl,rfl⟩
theorem rc_e1{f:Ts→Ts→Ts}{a b a' b':Tq}{x y x' y':Bool}{p:Int}(h1:large a.2.1 a.2.2=false)(h2:large b.2.1 b.2.2=false)(h:(ilarge (a,b,x,y) || ilarge (a',b',x',y'))=false)(hv:prec p=true)(he:(srd (a,b,x,y)).2.2=true):
  rcode p f (a,b,x,y) (a',b',x',y')=0∧rval p f (a,b,x,y) (a',b',x',y')=japi jnone:=by
 unfold rcode rval b2code b2val;rw[h,hv,he];refine⟨rfl,?_⟩;show giv (srd (a,b,x,y))=_;rw[giv_srd h1 h2,jof_out he]
theorem rc_e2{f:Ts→Ts→Ts}{a b a' b':Tq}{x y x' y':Bool}{p:Int}(h1:large a'.2.1 a'.2.2=false)(h2:large b'.2.1 b'.2.2=false)(h:(ilarge (a,b,x,y) || ilarge (a',b',x',y'))=false)(hv:prec p=true)(he:(srd (a,b,x,y)).2.2=false)(he':(srd (a',b',x',y')).2.2=true):
  rcode p f (a,b,x,y) (a',b',x',y')=0∧rval p f (a,b,x,y) (a',b',x',y')=japi jnone:=by
 unfold rcode rval b2code b2val;rw[h,hv,he,he'];refine⟨rfl,?_⟩;show giv (srd (a',b',x',y'))=_;rw[giv_srd h1 h2,jof_out he']
theorem set_form{S T:Ts}{A B C D:Tq}{x y u v:Bool}(hS:S=mkS A B x y)(hT:T=mkS C D u v)(o:pord A B x y)(o':pord C D u v):∃P Q X Y,stm S T=mkS P Q X Y∧pord P Q X Y:=by
 subst hS hT;have sa:=mkS_sf o;have sb:=mkS_sf o';have la:=mkS_lo A B x y;have lb:=mkS_lo C D u v;obtain⟨h1,h2,hs⟩:=stm_lohi sa sb la.1 la.2 lb.1 lb.2;exact⟨_,_,_,_,mkS_of h1 h2 (stm_ends sa sb).2,pord_of hs⟩
theorem stm_form{a b a' b':Tq}{x y x' y':Bool}(he:(srd (a,b,x,y)).2.2=false)(he':(srd (a',b',x',y')).2.2=false):∃P Q X Y,stm (srd (a,b,x,y)) (srd (a',b',x',y'))=mkS P Q X Y∧pord P Q X Y:=
 set_form (srd_mk he) (srd_mk he') (srd_ord he) (srd_ord he')
theorem gr_ok{f:Ts→Ts→Ts}{p:Int}{a b a' b':Tq}{x y x' y':Bool}(hf:(ilarge (a,b,x,y) || ilarge (a',b',x',y'))=false→prec p=true→(srd (a,b,x,y)).2.2=false→(srd (a',b',x',y')).2.2=false→∃P Q X Y,f (srd (a,b,x,y)) (srd (a',b',x',y'))=mkS P Q X Y∧pord P Q X Y)(h:rcode p f (a,b,x,y) (a',b',x',y')=0):∃r,JGood r∧rval p f (a,b,x,y) (a',b',x',y')=japi r:=by
 cases hL:(ilarge (a,b,x,y) || ilarge (a',b',x',y'))
 ·cases hv:prec p
  ·rw[(rop_arg hL hv).1] at h;exact absurd h (by decide)
  ·have hl:=hL;rw[Bool.or_eq_false_iff] at hl;have hl1:(large a.2.1 a.2.2 || large b.2.1 b.2.2)=false:=hl.1;have hl2:(large a'.2.1 a'.2.2 || large b'.2.1 b'.2.2)=false:=hl.2;rw[Bool.or_eq_false_iff] at hl1 hl2;cases he:(srd (a,b,x,y)).2.2
   ·cases he':(srd (a',b',x',y')).2.2
    ·have hc:=rc_both (f:=f) hL hv he he';obtain⟨P,Q,X,Y,hF,ho⟩:=hf hL hv he he';rw[hF] at hc;rw[hc.1] at h;rw[hc.2];have hs:=rnd_ends (A:=P) (B:=Q) (x:=X) (y:=Y) (p:=p.toNat);cases hb:sbig (sround (mkS P Q X Y) p.toNat)
     ·exact⟨_,ho.fr.round p.toNat (hs.1.trans hb),hs.2.symm⟩
     ·rw[hb] at h;exact absurd h (by decide)
    ·exact⟨jnone,.inl rfl,(rc_e2 (f:=f) hl2.1 hl2.2 hL hv he he').2⟩
   ·exact⟨jnone,.inl rfl,(rc_e1 (f:=f) hl1.1 hl1.2 hL hv he).2⟩
 ·rw[(rop_large hL).1] at h;exact absurd h (by decide)
theorem mul_good{p:Int}{a b a' b':Tq}{x y x' y':Bool}(h:rcode p stm (a,b,x,y) (a',b',x',y')=0):∃r,JGood r∧rval p stm (a,b,x,y) (a',b',x',y')=japi r:=gr_ok (fun _ _ he he'=>stm_form he he') h
abbrev Jt:=Tj
abbrev It:=Ti
abbrev St:=Ts
theorem fadd_comm(a b:Tq):fadd a b=fadd b a:=by
 unfold fadd;rw[Nat.mul_comm b.2.2 a.2.2]
 by_cases h:a.1=b.1
 ·rw[if_pos h,if_pos h.symm,Nat.add_comm,h]
 ·rw[if_neg h,if_neg (fun e:b.1=a.1=>h e.symm)]
  rcases Nat.lt_trichotomy (a.2.1*b.2.2) (b.2.1*a.2.2) with h1 | h1 | h1
  ·rw[if_pos h1,if_neg (by omega)]
  ·rw[if_neg (by omega),if_neg (by omega),h1,Nat.sub_self];unfold frac;simp
  ·rw[if_neg (by omega),if_pos h1]
theorem fadd_neg{a b:Tq}(ha:IsFr a)(hb:IsFr b):fneg (fadd a b)=fadd (fneg a) (fneg b):=by
 have p1:(0:Int) < (a.2.2:Int):=by have:=ha.pos;omega
 have p2:(0:Int) < (b.2.2:Int):=by have:=hb.pos;omega
 have q:=Int.mul_pos p1 p2;refine(fcmp_zero_iff (IsFr.add ha.pos hb.pos).opp (IsFr.add ha.opp.pos hb.opp.pos)).1 ?_;rw[fcmp_Q (fneg_FQ (fadd_FQ (self_FQ ha.pos) (self_FQ hb.pos))) (fadd_FQ (fneg_FQ (self_FQ ha.pos)) (fneg_FQ (self_FQ hb.pos))) q q]
 have e:∀s t u v:Int,-s*u+-t*v=-(s*u+t*v):=fun s t u v=>by rw[Int.neg_mul,Int.neg_mul,Int.neg_add]
 rw[e];unfold cmpI;rw[if_neg (Int.lt_irrefl _),if_neg (Int.lt_irrefl _)]
theorem jminus_plus{r t:Jt}(hr:JGood r)(ht:JGood t):jminus (jplus r (jminus t))=jplus t (jminus r):=by
 rcases hr with rfl | ⟨he,hl,hh,_⟩
 ·unfold jplus jminus;simp [jnone]
 rcases ht with rfl | ⟨he',hl',hh',_⟩
 ·unfold jplus jminus;simp [jnone]
 obtain⟨A,B,x,y,e⟩:=r;obtain⟨C,D,u,v,f⟩:=t;have e0:e=false:=he;have f0:f=false:=he';subst e0 f0;have z:fneg (false,0,0)=(false,0,0):=fneg_zero
 have k1:fneg (if (x || v) then (false,0,0) else fadd A (fneg D))=if (v || x) then (false,0,0) else fadd D (fneg A):=by
  rcases hl with ⟨g,_⟩ | ⟨g,gA⟩
  ·have g':x=true:=g;rw[g',Bool.or_true,Bool.true_or,if_pos rfl,if_pos rfl,z]
  rcases hh' with ⟨g2,_⟩ | ⟨g2,gD⟩
  ·have g':v=true:=g2;rw[g',Bool.or_true,Bool.true_or,if_pos rfl,if_pos rfl,z]
  have g':x=false:=g;have g2':v=false:=g2;rw[g',g2',Bool.or_false,if_neg (by decide),if_neg (by decide),fadd_neg gA.1 gD.1.opp,fneg2 gD.1,fadd_comm]
 have k2:fneg (if (y || u) then (false,0,0) else fadd B (fneg C))=if (u || y) then (false,0,0) else fadd C (fneg B):=by
  rcases hh with ⟨g,_⟩ | ⟨g,gA⟩
  ·have g':y=true:=g;rw[g',Bool.or_true,Bool.true_or,if_pos rfl,if_pos rfl,z]
  rcases hl' with ⟨g2,_⟩ | ⟨g2,gD⟩
  ·have g':u=true:=g2;rw[g',Bool.or_true,Bool.true_or,if_pos rfl,if_pos rfl,z]
  have g':y=false:=g;have g2':u=false:=g2;rw[g',g2',Bool.or_false,if_neg (by decide),if_neg (by decide),fadd_neg gA.1 gD.1.opp,fneg2 gD.1,fadd_comm]
 show(fneg (if (y || u) then (false,0,0) else fadd B (fneg C)),fneg (if (x || v) then (false,0,0) else fadd A (fneg D)),(y || u),(x || v),false)=(if (u || y) then (false,0,0) else fadd C (fneg B),if (v || x) then (false,0,0) else fadd D (fneg A),(u || y),(v || x),false);rw[k1,k2,Bool.or_comm y u,Bool.or_comm x v]
theorem jminus_round{n:Nat}{r:Jt}(h:JW n r)(p:Nat):jminus (jround r p)=jround (jminus r) p:=by
 rcases h with rfl | ⟨⟨he,hl,hh,_⟩,_⟩
 ·rfl
 obtain⟨A,B,x,y,e⟩:=r;have e0:e=false:=he;subst e0;show(fneg (if y then B else gup B p),fneg (if x then A else gdn A p),y,x,false)=(if y then fneg B else gdn (fneg B) p,if x then fneg A else gup (fneg A) p,y,x,false)
 have k1:fneg (if y then B else gup B p)=if y then fneg B else gdn (fneg B) p:=by
  cases y
  ·exact fneg2 (gdn_fr p)
  ·rfl
 have k2:fneg (if x then A else gdn A p)=if x then fneg A else gup (fneg A) p:=by
  rcases hl with ⟨g,_⟩ | ⟨g,gA⟩
  ·have g':x=true:=g;rw[g'];rfl
  ·have g':x=false:=g;rw[g'];show fneg (gdn A p)=fneg (gdn (fneg (fneg A)) p);rw[fneg2 gA]
 rw[k1,k2]
theorem jbig_minus(r:Jt):jbig (jminus r)=jbig r:=by
 obtain⟨A,B,x,y,e⟩:=r;cases e
 ·exact Bool.or_comm _ _
 ·rfl
theorem jminus_two{r:Jt}(h:JGood r):jminus (jminus r)=r:=by
 rcases h with rfl | ⟨he,hl,hh,_⟩
 ·rfl
 obtain⟨A,B,x,y,e⟩:=r;have e0:e=false:=he;subst e0;show(fneg (fneg A),fneg (fneg B),x,y,false)=(A,B,x,y,false);have z:fneg (false,0,0)=(false,0,0):=fneg_zero
 have kA:fneg (fneg A)=A:=by
  rcases hl with ⟨_,g⟩ | ⟨_,g⟩
  ·have g':A=(false,0,0):=g;rw[g',z,z]
  ·exact fneg2 g.1
 have kB:fneg (fneg B)=B:=by
  rcases hh with ⟨_,g⟩ | ⟨_,g⟩
  ·have g':B=(false,0,0):=g;rw[g',z,z]
  ·exact fneg2 g.1
 rw[kA,kB]
theorem neg_api{r:Jt}(h:JGood r):icode (japi r)=0∧iop sneg (japi r)=japi (jminus r):=by
 obtain⟨⟨h1,_⟩,⟨h2,_⟩⟩:=h.ends;have hb:=h.back;generalize japi r=V at h1 h2 hb ⊢;obtain⟨a,b,x,y⟩:=V
 have hl:ilarge (a,b,x,y)=false:=by
  show(large a.2.1 a.2.2 || large b.2.1 b.2.2)=false;rw[h1,h2];rfl
 have hs:=neg_same (x:=x) (y:=y) h1 h2;rw[hb] at hs;refine⟨by unfold icode;rw[hl];rfl,?_⟩;unfold iop;rw[hl];exact hs
theorem sub_turn(p:Int)(a b a' b':Tq)(x y x' y':Bool):
  rcode p sminus (a',b',x',y') (a,b,x,y)=rcode p sminus (a,b,x,y) (a',b',x',y')∧
  (rcode p sminus (a,b,x,y) (a',b',x',y')=0→∃r,JGood r∧rval p sminus (a,b,x,y) (a',b',x',y')=japi r∧rval p sminus (a',b',x',y') (a,b,x,y)=japi (jminus r)):=by
 cases hL:(ilarge (a,b,x,y) || ilarge (a',b',x',y'))
 ·have hL':(ilarge (a',b',x',y') || ilarge (a,b,x,y))=false:=(Bool.or_comm _ _).trans hL;cases hv:prec p
  ·rw[(rop_arg (f:=sminus) hL hv).1,(rop_arg (f:=sminus) hL' hv).1];exact⟨rfl,fun h=>absurd h (by decide)⟩
  ·have c1:=rop_code rop_minus p hL hv;have c2:=rop_code rop_minus p hL' hv;have hl:=hL;rw[Bool.or_eq_false_iff] at hl;have hl1:(large a.2.1 a.2.2 || large b.2.1 b.2.2)=false:=hl.1;have hl2:(large a'.2.1 a'.2.2 || large b'.2.1 b'.2.2)=false:=hl.2;rw[Bool.or_eq_false_iff] at hl1 hl2;have g1:=JGood.of (x:=x) (y:=y) hl1.1 hl1.2;have g2:=JGood.of (x:=x') (y:=y') hl2.1 hl2.2;have hw:JW 400 (jplus (jof (a,b,x,y)) (jminus (jof (a',b',x',y')))):=rop_minus.wide g1 g2;have ht:=jminus_plus g1 g2;have hr:=jminus_round hw p.toNat;rw[c1.1,c1.2,c2.1,c2.2];show(if jbig (jround (jplus (jof (a',b',x',y')) (jminus (jof (a,b,x,y)))) p.toNat) then (1:Int) else 0)=(if jbig (jround (jplus (jof (a,b,x,y)) (jminus (jof (a',b',x',y')))) p.toNat) then 1 else 0)∧_;rw[←ht,←hr,jbig_minus];refine⟨rfl,fun h=>?_⟩;generalize jplus (jof (a,b,x,y)) (jminus (jof (a',b',x',y')))=t at *;cases hb:jbig (jround t p.toNat)
   ·refine⟨jround t p.toNat,?_,rfl,?_⟩
    ·rcases hw with rfl | ⟨hf,_⟩
     ·exact .inl rfl
     ·exact hf.round _ hb
    ·rfl
   ·rw[hb] at h;exact absurd h (by decide)
 ·have hL':(ilarge (a',b',x',y') || ilarge (a,b,x,y))=true:=(Bool.or_comm _ _).trans hL;rw[(rop_large (p:=p) (f:=sminus) hL).1,(rop_large (p:=p) (f:=sminus) hL').1];exact⟨rfl,fun h=>absurd h (by decide)⟩
theorem op_turn{f:St→St→St}(p:Int)(i j:It)(hf:(srd i).2.2=false→(srd j).2.2=false→f (srd j) (srd i)=f (srd i) (srd j)):
  rcode p f j i=rcode p f i j∧rval p f j i=rval p f i j:=by
 obtain⟨F,hF⟩:∃F:St→St→St,F=fun x y=>srnd p (f x y):=⟨_,rfl⟩
 have e:(srd i).2.2=false→(srd j).2.2=false→F (srd j) (srd i)=F (srd i) (srd j):=fun h1 h2=>by rw[hF];exact congrArg (srnd p) (hf h1 h2)
 unfold rcode rval;rw[←hF];unfold b2code b2val;rw[Bool.or_comm (ilarge j)];cases (ilarge i || ilarge j)
 ·cases prec p
  ·exact⟨rfl,rfl⟩
  ·cases h1:(srd i).2.2
   ·cases h2:(srd j).2.2
    ·rw[e h1 h2];exact⟨rfl,rfl⟩
    ·exact⟨rfl,rfl⟩
   ·cases h2:(srd j).2.2
    ·exact⟨rfl,rfl⟩
    ·refine⟨rfl,?_⟩;show giv (srd j)=giv (srd i);unfold giv;rw[h1,h2];rfl
 ·exact⟨rfl,rfl⟩
theorem eplus_comm{x y:Int×Tq}(h:x.1=0∨y.1=0∨x=y):eplus x y=eplus y x:=by
 unfold eplus
 rcases h with h | h | h
 ·rw[if_neg (fun g=>g h)]
  by_cases k:y.1=0
  ·rw[if_neg (fun g=>g k),if_neg (fun g=>g k),if_neg (fun g=>g h),fadd_comm]
  ·rw[if_pos k,if_pos k]
 ·rw[if_neg (c:=y.1≠0) (fun g=>g h),if_neg (c:=y.1≠0) (fun g=>g h)]
  by_cases k:x.1=0
  ·rw[if_neg (fun g=>g k),if_neg (fun g=>g k),fadd_comm]
  ·rw[if_pos k,if_pos k]
 ·rw[h]
theorem mins{L M c1 c2 c3 c4:Int×Tq}(h:IsMin L c1 c2 c3 c4)(h':IsMin M c1 c2 c3 c4)(k:E4 c1 c2 c3 c4):L=M:=by
 refine ele_anti (h.ef k) (h'.ef k) ?_ ?_
 ·rcases h'.1 with rfl | rfl | rfl | rfl
  ·exact h.2.1
  ·exact h.2.2.1
  ·exact h.2.2.2.1
  ·exact h.2.2.2.2
 ·rcases h.1 with rfl | rfl | rfl | rfl
  ·exact h'.2.1
  ·exact h'.2.2.1
  ·exact h'.2.2.2.1
  ·exact h'.2.2.2.2
theorem maxs{L M c1 c2 c3 c4:Int×Tq}(h:IsMax L c1 c2 c3 c4)(h':IsMax M c1 c2 c3 c4)(k:E4 c1 c2 c3 c4):L=M:=by
 refine ele_anti (h.ef k) (h'.ef k) ?_ ?_
 ·rcases h.1 with rfl | rfl | rfl | rfl
  ·exact h'.2.1
  ·exact h'.2.2.1
  ·exact h'.2.2.2.1
  ·exact h'.2.2.2.2
 ·rcases h'.1 with rfl | rfl | rfl | rfl
  ·exact h.2.1
  ·exact h.2.2.1
  ·exact h.2.2.2.1
  ·exact h.2.2.2.2
theorem stm_comm{a b:St}(h:SF a)(h':SF b):stm b a=stm a b:=by
 have k:=stm_ends h h';have j:=stm_ends h' h;rw[etm_comm b.1 a.1,etm_comm b.1 a.2.1,etm_comm b.2.1 a.1,etm_comm b.2.1 a.2.1] at j;have f:=h.four h';have e1:=mins j.1.1.p2 k.1.1 f;have e2:=maxs j.1.2.p2 k.1.2 f;exact Prod.ext e1 (Prod.ext e2 (j.2.trans k.2.symm))
end Go.Proofs.YteblinkehldghaaGreatDoor
