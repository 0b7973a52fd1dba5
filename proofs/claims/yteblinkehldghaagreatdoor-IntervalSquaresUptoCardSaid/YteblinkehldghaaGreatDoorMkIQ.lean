/- The variable of a struct of any number of cells. Sets of the program: reading an interval. Operations of the program that end by a panic: what recovers them. Operations on an interval: ask. -/
import Derived.Test.YteblinkehldghaaGreatDoorBox
import Derived.Test.YteblinkehldghaaGreatDoorGrd
import Derived.Test.YteblinkehldghaaGreatDoorPowPQ
import Derived.Deep.RegionHeld3
import Derived.Test.YteblinkehldghaaGreatDoorIvA
import Derived.Test.YteblinkehldghaaGreatDoorIvC
import Derived.Deep.CutRange
import Derived.Test.YteblinkehldghaaGreatDoorEndsB
import Derived.Recover
import Derived.Defers
import Derived.Test.YteblinkehldghaaGreatDoorHasU
import Derived.Test.YteblinkehldghaaGreatDoorNegI
namespace Go.Proofs.YteblinkehldghaaGreatDoor
open Go.RowKit Dg
section
variable {P:Program} {ops:Array Oper} {Q:Exit→Act→World→Prop} {md:Region.Mode} {S:World→Prop} {v:Value} {fuel:Nat} {listed:Array Bool} {a:Act} {w:World}
end
theorem qs_1_8{w w':World}{B0 B1:Nat}{a0_0 a1_0 a1_1 a1_2 a1_3 a1_4 a1_5 a1_6 a1_7:Value}(h:QQ w [(B0,[a0_0]),(B1,[a1_0,a1_1,a1_2,a1_3,a1_4,a1_5,a1_6,a1_7])] w'):w'.cell? ⟨B0,0,none⟩=some a0_0∧w'.cell? ⟨B1,0,none⟩=some a1_0∧w'.cell? ⟨B1,1,none⟩=some a1_1∧w'.cell? ⟨B1,2,none⟩=some a1_2∧w'.cell? ⟨B1,3,none⟩=some a1_3∧w'.cell? ⟨B1,4,none⟩=some a1_4∧w'.cell? ⟨B1,5,none⟩=some a1_5∧w'.cell? ⟨B1,6,none⟩=some a1_6∧w'.cell? ⟨B1,7,none⟩=some a1_7∧Hid (QQ w [(B0,[a0_0]),(B1,[a1_0,a1_1,a1_2,a1_3,a1_4,a1_5,a1_6,a1_7])] w'):=⟨h.b1.cells1.1,h.b2.cells8.1,h.b2.cells8.2.1,h.b2.cells8.2.2.1,h.b2.cells8.2.2.2.1,h.b2.cells8.2.2.2.2.1,h.b2.cells8.2.2.2.2.2.1,h.b2.cells8.2.2.2.2.2.2.1,h.b2.cells8.2.2.2.2.2.2.2.1,hid h⟩
theorem qs_9_1_1{w w':World}{B0 B1 B2:Nat}{a0_0 a0_1 a0_2 a0_3 a0_4 a0_5 a0_6 a0_7 a0_8 a1_0 a2_0:Value}(h:QQ w [(B0,[a0_0,a0_1,a0_2,a0_3,a0_4,a0_5,a0_6,a0_7,a0_8]),(B1,[a1_0]),(B2,[a2_0])] w'):w'.cell? ⟨B0,0,none⟩=some a0_0∧w'.cell? ⟨B0,1,none⟩=some a0_1∧w'.cell? ⟨B0,2,none⟩=some a0_2∧w'.cell? ⟨B0,3,none⟩=some a0_3∧w'.cell? ⟨B0,4,none⟩=some a0_4∧w'.cell? ⟨B0,5,none⟩=some a0_5∧w'.cell? ⟨B0,6,none⟩=some a0_6∧w'.cell? ⟨B0,7,none⟩=some a0_7∧w'.cell? ⟨B0,8,none⟩=some a0_8∧w'.cell? ⟨B1,0,none⟩=some a1_0∧w'.cell? ⟨B2,0,none⟩=some a2_0∧Hid (QQ w [(B0,[a0_0,a0_1,a0_2,a0_3,a0_4,a0_5,a0_6,a0_7,a0_8]),(B1,[a1_0]),(B2,[a2_0])] w'):=⟨h.b1.cells9.1,h.b1.cells9.2.1,h.b1.cells9.2.2.1,h.b1.cells9.2.2.2.1,h.b1.cells9.2.2.2.2.1,h.b1.cells9.2.2.2.2.2.1,h.b1.cells9.2.2.2.2.2.2.1,h.b1.cells9.2.2.2.2.2.2.2.1,h.b1.cells9.2.2.2.2.2.2.2.2.1,h.b2.cells1.1,h.b3.cells1.1,hid h⟩
end Go.Proofs.YteblinkehldghaaGreatDoor

set_option maxHeartbeats 4000000
set_option maxRecDepth 100000
namespace Go.Proofs.YteblinkehldghaaGreatDoor
open Go.RowKit Dg
open And renaming intro→Ai
open List renaming setIfInBounds_toArray→Sa,set_cons_zero→Sz,set_cons_succ→Sc
open Go.RowKit.Below renaming refl→Br
theorem stores_size(w:World)(B:Nat)(vs:List Value):∀k,(stores w B k vs).heap.size=w.heap.size:=by
 induction vs generalizing w with
 | nil=>intro k;rfl
 | cons v l ih=>intro k;exact(ih _ _).trans (by simp)
theorem st_step{τ:Type}{R:World→Value→τ→Prop}(hR:∀(l:List Value) (w:World) (B k:Nat) (cs:Array Value) (v:Value) (x:τ),R w v x→Box w B cs→NDs l→R (stores w B k l) v x)
  {w0 w w':World}{l:List (Nat×List Value)}{B C:Nat}{cs ds:Array Value}{vs:List Value}{v0 v1:Value}{x0 x1:τ}(h:stores w B 0 vs=w')(hQ:QQ w0 l w)(hB:Box w B cs)(hl:vs.length=cs.size)(hn:NDs vs)(ha:Apart l B)(hle:w0.heap.size≤B)(hC:Box w C ds)(hne:C≠B)(h0:Hid (R w v0 x0))(h1:Hid (R w v1 x1)):
  QQ w0 l w'∧Box w' B vs.toArray∧Box w' C ds∧Hid (R w' v0 x0)∧Hid (R w' v1 x1)∧w'.heap.size=w.heap.size:=by
 subst h;exact⟨hQ.stores ha hle,hB.stores vs hl hn,hC.stores_other hne,hid (hR _ _ _ _ _ _ _ h0.out hB hn),hid (hR _ _ _ _ _ _ _ h1.out hB hn),stores_size _ _ _ _⟩
theorem QQ.nil{w w1:World}(h:Bw w w1):QQ w [] w1:=⟨fun _ hp=>absurd hp (by simp),h⟩
end Go.Proofs.YteblinkehldghaaGreatDoor

set_option maxHeartbeats 1000000
set_option maxRecDepth 100000
namespace Go.Proofs.YteblinkehldghaaGreatDoor
open Go.RowKit Dg
theorem catchB_panicking(p:Addr)(x c)(older:List PanicEntry)(w:World)(hc:w.cell? p=some (.int .i64 x))(hz:w.frozen? p=false):
  CallsD Tryz.prog 153 #[.pointer (some p)] (.panicking ({v:=.iface 27 (.int .i64 c),recovered:=false}::older)) w fun e u' w'=>
   e=.returned (.tuple #[])∧u'=.panicking ({v:=.iface 27 (.int .i64 c),recovered:=true}::older)∧w'=w.setCell p (.int .i64 c):=by
 refine callsD_of_wpS Tryz.func153 rfl fun c₀ cs hu=>?_
 apply wpS_seq;apply wpS_region;simp [wpOpsS,go_sem,recoverD,hu,Tryz.ntmps153,Exit.thenS];refine wpS_of_wp ?_;have hta:=assert_errno c;go_wp2_with fail;simp [bodyPostS,results,Tryz.results153]
theorem catchB_idle(p:Addr)(w:World):
  CallsD Tryz.prog 153 #[.pointer (some p)] .returning w fun e u' w'=>e=.returned (.tuple #[])∧u'=.returning∧w'=w:=by
 refine callsD_of_wpS Tryz.func153 rfl fun c₀ cs hu=>?_
 apply wpS_seq;apply wpS_region;simp [wpOpsS,go_sem,recoverD,hu,Tryz.ntmps153,Exit.thenS];refine wpS_of_wp ?_;go_wp2_with fail;cases c₀
 simp_all [bodyPostS,results,Tryz.results153]
abbrev GP (w:World) (r:Ti):Ending→World→Prop:=fun e' w'=>∃s p k c q l d sz pz kz cz qz lz dz x y,e'=.returned (.agg #[.bool s,.slice p k c,.slice q l d,.bool sz,.slice pz kz cz,.slice qz lz dz,.bool x,.bool y])∧Hid (GRep w' (.agg #[.bool s,.slice p k c,.slice q l d,.bool sz,.slice pz kz cz,.slice qz lz dz,.bool x,.bool y]) r)∧Bw w w'
theorem finB_ok(g:FuncId)(cap:Array Value)(b)(w:World)(hfn:∀args W,(callFunc g args).run Tryz.prog W=.ok (.enter g args) W)
  (hop:∀W,Bw w W→Calls Tryz.prog g cap W fun e w'=>e=.returned (.bool b)∧Bw W w'):
  Calls Tryz.prog 122 #[.func (.func g) #[] cap] w fun e w'=>e=.returned (.tuple #[.bool b,.int .i64 0])∧Bw w w':=by
 have hmf:=makeFunc_run;have HO:=hid hop;clear hop
 go_enter_defers Tryz.func122,Tryz.ntmps122
 go_wp2_with fail;generalize hA:World.alloc _ _=W0;have HV:=hid (pre1_o hA nd1);clear hA;refine(HO.out _ HV.out.2).mono ?_;rintro e w1 ⟨rfl,hB⟩;have HV1:=hid (HV.out.1.below hB);have HB:=hid (HV.out.2.trans (hB.mono HV.out.2.size));clear hB;obtain⟨g0,f0⟩:=HV1.out.cells1;go_wp2_with fail;refine leaves_cons (f:=153) (args:=#[.pointer (some ⟨w.heap.size,0,none⟩)]) (by simp) (by simp [go_sem]) ?_;refine(catchB_idle ⟨w.heap.size,0,none⟩ _).mono ?_;rintro e u' w'' ⟨rfl,rfl,rfl⟩;have hVx:Box (w1.setCell ⟨w.heap.size,0,none⟩ (.int .i64 0)) w.heap.size #[.int .i64 0]:=HV1.out.stores [.int .i64 0] rfl nd1;obtain⟨c0,_⟩:=hVx.cells1;have HL:Hid (Bw w (w1.setCell ⟨w.heap.size,0,none⟩ (.int .i64 0))):=hid (HB.out.setCell (Nat.le_refl _) _);simp [Leaves,settle,results,Tryz.results122,go_sem,c0];exact HL.out
theorem finB_err(g:FuncId)(cap:Array Value)(c)(w:World)(hfn:∀args W,(callFunc g args).run Tryz.prog W=.ok (.enter g args) W)
  (hop:∀W,Bw w W→Calls Tryz.prog g cap W fun e w'=>e=pan c∧Bw W w'):
  Calls Tryz.prog 122 #[.func (.func g) #[] cap] w fun e w'=>e=.returned (.tuple #[.bool false,.int .i64 c])∧Bw w w':=by
 have hmf:=makeFunc_run;have HO:=hid hop;clear hop
 go_enter_defers Tryz.func122,Tryz.ntmps122
 go_wp2_with fail;generalize hA:World.alloc _ _=W0;have HV:=hid (pre1_o hA nd1);clear hA;refine(HO.out _ HV.out.2).mono ?_;rintro e w1 ⟨rfl,hB⟩;have HV1:=hid (HV.out.1.below hB);have HB:=hid (HV.out.2.trans (hB.mono HV.out.2.size));clear hB;obtain⟨g0,f0⟩:=HV1.out.cells1;unfold pan;refine leaves_cons (f:=153) (args:=#[.pointer (some ⟨w.heap.size,0,none⟩)]) (by simp) (by simp [go_sem]) ?_;refine(catchB_panicking ⟨w.heap.size,0,none⟩ 0 c [] _ g0 f0).mono ?_;rintro e u' w'' ⟨rfl,rfl,rfl⟩;have hVx:Box (w1.setCell ⟨w.heap.size,0,none⟩ (.int .i64 c)) w.heap.size #[.int .i64 c]:=HV1.out.stores [.int .i64 c] rfl nd1;obtain⟨c0,_⟩:=hVx.cells1;have HL:Hid (Bw w (w1.setCell ⟨w.heap.size,0,none⟩ (.int .i64 c))):=hid (HB.out.setCell (Nat.le_refl _) _);simp [Leaves,settle,results,Tryz.results122,go_sem,c0];exact HL.out
end Go.Proofs.YteblinkehldghaaGreatDoor

set_option maxHeartbeats 2000000
set_option maxRecDepth 100000
namespace Go.Proofs.YteblinkehldghaaGreatDoor
open Go.RowKit Dg
open List renaming setIfInBounds_toArray→Sa,set_cons_zero→Sz,set_cons_succ→Sc
theorem ask1I_ret{W:World}{B:Nat}{a0 a1 a2 a3 a4 a5 a6 a7:Value}{tm:Array Value}{R:Ending→World→Prop}(h2:tm[2]?.getD undef=.pointer (some ⟨B,0,none⟩))(hV:Box W B #[a0,a1,a2,a3,a4,a5,a6,a7])(hR:R (.returned (.agg #[a0,a1,a2,a3,a4,a5,a6,a7])) W):
  bodyPost Tryz.prog Tryz.f107 R .ret {tmps:=tm,defers:=[]} W:=by
 obtain⟨g0,g1,g2,g3,g4,g5,g6,g7,_⟩:=hV.cells8;exact bodyPost_ret (v:=.agg #[a0,a1,a2,a3,a4,a5,a6,a7]) (by simp [results,Tryz.results107,go_sem,h2,g0,g1,g2,g3,g4,g5,g6,g7]) rfl hR
theorem ask1I_ok(Bo Ba:Nat)(s1 p1 k1 c1 q1 l1 d1 sz1 pz1 kz1 cz1 qz1 lz1 dz1 x1 y1)(g:FuncId)(cap:Array Value)(a b:Tq)(D:Ti)(w:World)
  (hBo:Box w Bo #[.func (.func g) #[] cap])(hBa:Box w Ba #[.bool s1,.slice p1 k1 c1,.slice q1 l1 d1,.bool sz1,.slice pz1 kz1 cz1,.slice qz1 lz1 dz1,.bool x1,.bool y1])(ha:NRep w (.agg #[.bool s1,.slice p1 k1 c1,.slice q1 l1 d1]) a)(hb:NRep w (.agg #[.bool sz1,.slice pz1 kz1 cz1,.slice qz1 lz1 dz1]) b)(h1:large a.2.1 a.2.2=false)(h2:large b.2.1 b.2.2=false)(ht:TabOk w)
  (hfn:∀args W,(callFunc g args).run Tryz.prog W=.ok (.enter g args) W)
  (hop:∀W i3 s3 p3 k3 c3 q3 l3 d3 j3 sz3 pz3 kz3 cz3 qz3 lz3 dz3 e3,Bw w W→SRep W (.agg #[.int .i64 i3,.bool s3,.slice p3 k3 c3,.slice q3 l3 d3,.int .i64 j3,.bool sz3,.slice pz3 kz3 cz3,.slice qz3 lz3 dz3,.bool e3]) (srd (a,b,x1,y1))→Calls Tryz.prog g (#[.agg #[.int .i64 i3,.bool s3,.slice p3 k3 c3,.slice q3 l3 d3,.int .i64 j3,.bool sz3,.slice pz3 kz3 cz3,.slice qz3 lz3 dz3,.bool e3]] ++ cap) W (GP W D)):
  Calls Tryz.prog 107 #[.pointer (some ⟨Bo,0,none⟩),.pointer (some ⟨Ba,0,none⟩)] w (GP w D):=by
 have HR:=hid (fun (W:World) (hW:Bw w W)=>readSet_ok s1 p1 k1 c1 q1 l1 d1 sz1 pz1 kz1 cz1 qz1 lz1 dz1 x1 y1 a b W (ha.below hW) (hb.below hW) h1 h2 (ht.below hW));have HO:=hid hop;clear ha hb h1 h2 ht hop;have hlo:=hBo.lt;have hla:=hBa.lt;go_enter Tryz.func107,Tryz.ntmps107;go_upto_region 1 with fail;generalize hA:World.alloc _ _=W0;have HV:=hid (pre1_o hA nd8);clear hA;have HQ:=hid (QQ.i2 (cs:=[.func (.func g) #[] cap]) (cs':=[.bool s1,.slice p1 k1 c1,.slice q1 l1 d1,.bool sz1,.slice pz1 kz1 cz1,.slice qz1 lz1 dz1,.bool x1,.bool y1]) (hBo.below HV.out.2) (hBa.below HV.out.2) HV.out.2);have HN:Hid (Apart [(Bo,[.func (.func g) #[] cap]),(Ba,[.bool s1,.slice p1 k1 c1,.slice q1 l1 d1,.bool sz1,.slice pz1 kz1 cz1,.slice qz1 lz1 dz1,.bool x1,.bool y1])] w.heap.size):=hid (ne2 (by omega) (by omega));have HI:Hid (w.heap.size≤w.heap.size):=hid (Nat.le_refl _);clear hBo hBa;have HS:=hid (fun (w':World) (hb:QQ w [(Bo,[.func (.func g) #[] cap]),(Ba,[.bool s1,.slice p1 k1 c1,.slice q1 l1 d1,.bool sz1,.slice pz1 kz1 cz1,.slice qz1 lz1 dz1,.bool x1,.bool y1])] w')=>qs_1_8 hb)
 go_region_held3 (fun w'=>w'.cell? ⟨Bo,0,none⟩=some (.func (.func g) #[] cap)∧w'.cell? ⟨Ba,0,none⟩=some (.bool s1)∧w'.cell? ⟨Ba,1,none⟩=some (.slice p1 k1 c1)∧w'.cell? ⟨Ba,2,none⟩=some (.slice q1 l1 d1)∧w'.cell? ⟨Ba,3,none⟩=some (.bool sz1)∧w'.cell? ⟨Ba,4,none⟩=some (.slice pz1 kz1 cz1)∧w'.cell? ⟨Ba,5,none⟩=some (.slice qz1 lz1 dz1)∧w'.cell? ⟨Ba,6,none⟩=some (.bool x1)∧w'.cell? ⟨Ba,7,none⟩=some (.bool y1)∧Hid (QQ w [(Bo,[.func (.func g) #[] cap]),(Ba,[.bool s1,.slice p1 k1 c1,.slice q1 l1 d1,.bool sz1,.slice pz1 kz1 cz1,.slice qz1 lz1 dz1,.bool x1,.bool y1])] w'))
  (first | (refine HS.out _ ?_;first | (with_reducible exact HQ.out.drew) | (with_reducible assumption) | (with_reducible refine QQ.st8 ?_ HN.out HI.out;assumption)))
  (first
   | (go_at_call 108;refine(HR.out _ HQ.out.drew.bel).mono ?_;rintro e wa ⟨i3,s3,p3,k3,c3,q3,l3,d3,j3,sz3,pz3,kz3,cz3,qz3,lz3,dz3,e3,rfl,hS,hB1⟩;have hQ1:=HQ.out.drew.call hB1;have hV1:=(HV.out.1.drew).below hB1)
   | (refine(HO.out _ i3 s3 p3 k3 c3 q3 l3 d3 j3 sz3 pz3 kz3 cz3 qz3 lz3 dz3 e3 hQ1.bel hS.out).mono ?_;rintro e wb ⟨s5,p5,k5,c5,q5,l5,d5,sz5,pz5,kz5,cz5,qz5,lz5,dz5,x5,y5,rfl,hG,hB2⟩;have hQ2:=hQ1.call hB2;have hV2:=hV1.below hB2;obtain⟨g0,g1,g2,g3,g4,g5,g6,g7,f0,f1,f2,f3,f4,f5,f6,f7⟩:=hV2.cells8))
 rename_i hHeld
 clear hHeld;have HE:=hid (And.intro hV2 (And.intro hG.out hQ2.bel));clear hQ1 hQ2 hB1 hB2 hS hV1 hV2 hG;go_wp2_with fail;exact ask1I_ret rfl (HE.out.1.stores [.bool s5,.slice p5 k5 c5,.slice q5 l5 d5,.bool sz5,.slice pz5 kz5 cz5,.slice qz5 lz5 dz5,.bool x5,.bool y5] rfl nd8) ⟨s5,p5,k5,c5,q5,l5,d5,sz5,pz5,kz5,cz5,qz5,lz5,dz5,x5,y5,rfl,hid (GRep.stores (k:=0) (l:=[.bool s5,.slice p5 k5 c5,.slice q5 l5 d5,.bool sz5,.slice pz5 kz5 cz5,.slice qz5 lz5 dz5,.bool x5,.bool y5]) HE.out.2.1 HE.out.1 nd8),Below.stores (k:=0) (l:=[.bool s5,.slice p5 k5 c5,.slice q5 l5 d5,.bool sz5,.slice pz5 kz5 cz5,.slice qz5 lz5 dz5,.bool x5,.bool y5]) HE.out.2.2 (Nat.le_refl _)⟩
theorem ask1I_large(Bo Ba:Nat)(s1 p1 k1 c1 q1 l1 d1 sz1 pz1 kz1 cz1 qz1 lz1 dz1 x1 y1)(g:FuncId)(cap:Array Value)(a b:Tq)(w:World)
  (hBo:Box w Bo #[.func (.func g) #[] cap])(hBa:Box w Ba #[.bool s1,.slice p1 k1 c1,.slice q1 l1 d1,.bool sz1,.slice pz1 kz1 cz1,.slice qz1 lz1 dz1,.bool x1,.bool y1])(ha:NRep w (.agg #[.bool s1,.slice p1 k1 c1,.slice q1 l1 d1]) a)(hb:NRep w (.agg #[.bool sz1,.slice pz1 kz1 cz1,.slice qz1 lz1 dz1]) b)(h1:(large a.2.1 a.2.2 || large b.2.1 b.2.2)=true)(ht:TabOk w):
  Calls Tryz.prog 107 #[.pointer (some ⟨Bo,0,none⟩),.pointer (some ⟨Ba,0,none⟩)] w fun e w'=>e=pan 1∧Bw w w':=by
 have HR:=hid (fun (W:World) (hW:Bw w W)=>readSet_pan s1 p1 k1 c1 q1 l1 d1 sz1 pz1 kz1 cz1 qz1 lz1 dz1 x1 y1 a b W (ha.below hW) (hb.below hW) h1 (ht.below hW));clear ha hb h1 ht;have hlo:=hBo.lt;have hla:=hBa.lt;go_enter Tryz.func107,Tryz.ntmps107;go_upto_region 1 with fail;generalize hA:World.alloc _ _=W0;have HV:=hid (pre1_o hA nd8);clear hA;have HQ:=hid (QQ.i2 (cs:=[.func (.func g) #[] cap]) (cs':=[.bool s1,.slice p1 k1 c1,.slice q1 l1 d1,.bool sz1,.slice pz1 kz1 cz1,.slice qz1 lz1 dz1,.bool x1,.bool y1]) (hBo.below HV.out.2) (hBa.below HV.out.2) HV.out.2);have HN:Hid (Apart [(Bo,[.func (.func g) #[] cap]),(Ba,[.bool s1,.slice p1 k1 c1,.slice q1 l1 d1,.bool sz1,.slice pz1 kz1 cz1,.slice qz1 lz1 dz1,.bool x1,.bool y1])] w.heap.size):=hid (ne2 (by omega) (by omega));have HI:Hid (w.heap.size≤w.heap.size):=hid (Nat.le_refl _);clear hBo hBa;have HS:=hid (fun (w':World) (hb:QQ w [(Bo,[.func (.func g) #[] cap]),(Ba,[.bool s1,.slice p1 k1 c1,.slice q1 l1 d1,.bool sz1,.slice pz1 kz1 cz1,.slice qz1 lz1 dz1,.bool x1,.bool y1])] w')=>qs_1_8 hb);refine wp_region_held_drew (S:=(fun w'=>w'.cell? ⟨Bo,0,none⟩=some (.func (.func g) #[] cap)∧w'.cell? ⟨Ba,0,none⟩=some (.bool s1)∧w'.cell? ⟨Ba,1,none⟩=some (.slice p1 k1 c1)∧w'.cell? ⟨Ba,2,none⟩=some (.slice q1 l1 d1)∧w'.cell? ⟨Ba,3,none⟩=some (.bool sz1)∧w'.cell? ⟨Ba,4,none⟩=some (.slice pz1 kz1 cz1)∧w'.cell? ⟨Ba,5,none⟩=some (.slice qz1 lz1 dz1)∧w'.cell? ⟨Ba,6,none⟩=some (.bool x1)∧w'.cell? ⟨Ba,7,none⟩=some (.bool y1)∧Hid (QQ w [(Bo,[.func (.func g) #[] cap]),(Ba,[.bool s1,.slice p1 k1 c1,.slice q1 l1 d1,.bool sz1,.slice pz1 kz1 cz1,.slice qz1 lz1 dz1,.bool x1,.bool y1])] w'))) (by kernel_rfl) (HS.out _ HQ.out.drew) (fun hHeld=>?_);refine wt (v:=?vv0) 0 rfl (.inl ⟨by rfl,?hy0⟩) ?_
 case hy0=>(intro w' hSw;(try dsimp only at hSw);go_simp;first | done | with_reducible rfl)
 simp only[Act.put];refine wt (v:=?vv1) 1 rfl (.inl ⟨by rfl,?hy1⟩) ?_
 case hy1=>(intro w' hSw;(try dsimp only at hSw);go_simp;first | done | with_reducible rfl)
 simp only[Act.put];refine wr 2 rfl (fun K hK=>?_);go_simp;go_at_call 108;refine(HR.out _ HQ.out.drew.bel).mono ?_;rintro e wa ⟨rfl,hB1⟩;exact⟨rfl,rfl,(HQ.out.drew.call hB1).bel⟩
theorem ask1I_err(Bo Ba:Nat)(s1 p1 k1 c1 q1 l1 d1 sz1 pz1 kz1 cz1 qz1 lz1 dz1 x1 y1)(g:FuncId)(cap:Array Value)(a b:Tq)(r:Int)(w:World)
  (hBo:Box w Bo #[.func (.func g) #[] cap])(hBa:Box w Ba #[.bool s1,.slice p1 k1 c1,.slice q1 l1 d1,.bool sz1,.slice pz1 kz1 cz1,.slice qz1 lz1 dz1,.bool x1,.bool y1])(ha:NRep w (.agg #[.bool s1,.slice p1 k1 c1,.slice q1 l1 d1]) a)(hb:NRep w (.agg #[.bool sz1,.slice pz1 kz1 cz1,.slice qz1 lz1 dz1]) b)(h1:large a.2.1 a.2.2=false)(h2:large b.2.1 b.2.2=false)(ht:TabOk w)
  (hfn:∀args W,(callFunc g args).run Tryz.prog W=.ok (.enter g args) W)
  (hop:∀W i3 s3 p3 k3 c3 q3 l3 d3 j3 sz3 pz3 kz3 cz3 qz3 lz3 dz3 e3,Bw w W→SRep W (.agg #[.int .i64 i3,.bool s3,.slice p3 k3 c3,.slice q3 l3 d3,.int .i64 j3,.bool sz3,.slice pz3 kz3 cz3,.slice qz3 lz3 dz3,.bool e3]) (srd (a,b,x1,y1))→Calls Tryz.prog g (#[.agg #[.int .i64 i3,.bool s3,.slice p3 k3 c3,.slice q3 l3 d3,.int .i64 j3,.bool sz3,.slice pz3 kz3 cz3,.slice qz3 lz3 dz3,.bool e3]] ++ cap) W fun e w'=>e=pan r∧Bw W w'):
  Calls Tryz.prog 107 #[.pointer (some ⟨Bo,0,none⟩),.pointer (some ⟨Ba,0,none⟩)] w fun e w'=>e=pan r∧Bw w w':=by
 have HR:=hid (fun (W:World) (hW:Bw w W)=>readSet_ok s1 p1 k1 c1 q1 l1 d1 sz1 pz1 kz1 cz1 qz1 lz1 dz1 x1 y1 a b W (ha.below hW) (hb.below hW) h1 h2 (ht.below hW));have HO:=hid hop;clear ha hb h1 h2 ht hop;have hlo:=hBo.lt;have hla:=hBa.lt;go_enter Tryz.func107,Tryz.ntmps107;go_upto_region 1 with fail;generalize hA:World.alloc _ _=W0;have HV:=hid (pre1_o hA nd8);clear hA;have HQ:=hid (QQ.i2 (cs:=[.func (.func g) #[] cap]) (cs':=[.bool s1,.slice p1 k1 c1,.slice q1 l1 d1,.bool sz1,.slice pz1 kz1 cz1,.slice qz1 lz1 dz1,.bool x1,.bool y1]) (hBo.below HV.out.2) (hBa.below HV.out.2) HV.out.2);have HN:Hid (Apart [(Bo,[.func (.func g) #[] cap]),(Ba,[.bool s1,.slice p1 k1 c1,.slice q1 l1 d1,.bool sz1,.slice pz1 kz1 cz1,.slice qz1 lz1 dz1,.bool x1,.bool y1])] w.heap.size):=hid (ne2 (by omega) (by omega));have HI:Hid (w.heap.size≤w.heap.size):=hid (Nat.le_refl _);clear hBo hBa;have HS:=hid (fun (w':World) (hb:QQ w [(Bo,[.func (.func g) #[] cap]),(Ba,[.bool s1,.slice p1 k1 c1,.slice q1 l1 d1,.bool sz1,.slice pz1 kz1 cz1,.slice qz1 lz1 dz1,.bool x1,.bool y1])] w')=>qs_1_8 hb);refine wp_region_held_drew (S:=(fun w'=>w'.cell? ⟨Bo,0,none⟩=some (.func (.func g) #[] cap)∧w'.cell? ⟨Ba,0,none⟩=some (.bool s1)∧w'.cell? ⟨Ba,1,none⟩=some (.slice p1 k1 c1)∧w'.cell? ⟨Ba,2,none⟩=some (.slice q1 l1 d1)∧w'.cell? ⟨Ba,3,none⟩=some (.bool sz1)∧w'.cell? ⟨Ba,4,none⟩=some (.slice pz1 kz1 cz1)∧w'.cell? ⟨Ba,5,none⟩=some (.slice qz1 lz1 dz1)∧w'.cell? ⟨Ba,6,none⟩=some (.bool x1)∧w'.cell? ⟨Ba,7,none⟩=some (.bool y1)∧Hid (QQ w [(Bo,[.func (.func g) #[] cap]),(Ba,[.bool s1,.slice p1 k1 c1,.slice q1 l1 d1,.bool sz1,.slice pz1 kz1 cz1,.slice qz1 lz1 dz1,.bool x1,.bool y1])] w'))) (by kernel_rfl) (HS.out _ HQ.out.drew) (fun hHeld=>?_);refine wt (v:=?vv0) 0 rfl (.inl ⟨by rfl,?hy0⟩) ?_
 case hy0=>(intro w' hSw;(try dsimp only at hSw);go_simp;first | done | with_reducible rfl)
 simp only[Act.put];refine wt (v:=?vv1) 1 rfl (.inl ⟨by rfl,?hy1⟩) ?_
 case hy1=>(intro w' hSw;(try dsimp only at hSw);go_simp;first | done | with_reducible rfl)
 simp only[Act.put];refine wr 2 rfl (fun K hK=>?_);go_simp;go_at_call 108;refine(HR.out _ HQ.out.drew.bel).mono ?_;rintro e wa ⟨i3,s3,p3,k3,c3,q3,l3,d3,j3,sz3,pz3,kz3,cz3,qz3,lz3,dz3,e3,rfl,hS,hB1⟩;have hQ1:=HQ.out.drew.call hB1;go_wp2_with fail;refine hK.out _ _ ?_ (fun hHeld=>?_)
 ·exact HS.out _ (hQ1)
 clear hK K;(try simp only[Act.put,Sa,Sz,Sc]);refine wr 3 rfl (fun K hK=>?_);go_simp;refine(HO.out _ i3 s3 p3 k3 c3 q3 l3 d3 j3 sz3 pz3 kz3 cz3 qz3 lz3 dz3 e3 hQ1.bel hS.out).mono ?_;rintro e wb ⟨rfl,hB2⟩;exact⟨rfl,rfl,(hQ1.call hB2).bel⟩
theorem enter_ask1I(args:Array Value)(w:World):(callFunc 107 args).run Tryz.prog w=.ok (.enter 107 args) w:=call_enter Tryz.func107 (by kernel_rfl) rfl args w
theorem askI_ret{W:World}{B:Nat}{a0 a1 a2 a3 a4 a5 a6 a7 ev:Value}{tm:Array Value}{R:Ending→World→Prop}(h2:tm[4]?.getD undef=.pointer (some ⟨B,0,none⟩))(h3:tm[5]?.getD undef=ev)(hV:Box W B #[a0,a1,a2,a3,a4,a5,a6,a7])(hR:R (.returned (.tuple #[.agg #[a0,a1,a2,a3,a4,a5,a6,a7],ev])) W):
  bodyPost Tryz.prog Tryz.f72 R .ret {tmps:=tm,defers:=[]} W:=by
 obtain⟨g0,g1,g2,g3,g4,g5,g6,g7,_⟩:=hV.cells8;exact bodyPost_ret (v:=.tuple #[.agg #[a0,a1,a2,a3,a4,a5,a6,a7],ev]) (by simp [results,Tryz.results72,go_sem,h2,h3,g0,g1,g2,g3,g4,g5,g6,g7]) rfl hR
theorem askI_any(s1 p1 k1 c1 q1 l1 d1 sz1 pz1 kz1 cz1 qz1 lz1 dz1 x1 y1)(g:FuncId)(cap:Array Value)(D:Ti)(c:Int)(w:World)
  (hcl:∀W,Bw w W→Box W w.heap.size #[.bool s1,.slice p1 k1 c1,.slice q1 l1 d1,.bool sz1,.slice pz1 kz1 cz1,.slice qz1 lz1 dz1,.bool x1,.bool y1]→Box W (w.heap.size+1) #[.func (.func g) #[] cap]→
   Calls Tryz.prog 106 #[.func (.func 107) #[] #[.pointer (some ⟨w.heap.size+1,0,none⟩),.pointer (some ⟨w.heap.size,0,none⟩)]] W (GT W c D)):
  Calls Tryz.prog 72 #[.agg #[.bool s1,.slice p1 k1 c1,.slice q1 l1 d1,.bool sz1,.slice pz1 kz1 cz1,.slice qz1 lz1 dz1,.bool x1,.bool y1],.func (.func g) #[] cap] w (GT w c D):=by
 have hmf:=makeFunc_run;have HC:=hid hcl;clear hcl;go_enter Tryz.func72,Tryz.ntmps72;go_wp2_with fail;have HV:=hid (pre3 w [.bool s1,.slice p1 k1 c1,.slice q1 l1 d1,.bool sz1,.slice pz1 kz1 cz1,.slice qz1 lz1 dz1,.bool x1,.bool y1] [.func (.func g) #[] cap] [.bool false,.slice none 0 0,.slice none 0 0,.bool false,.slice none 0 0,.slice none 0 0,.bool false,.bool false] 26 96 26 nd8 nd1 nd8);generalize((w.alloc (.cells #[.bool s1,.slice p1 k1 c1,.slice q1 l1 d1,.bool sz1,.slice pz1 kz1 cz1,.slice qz1 lz1 dz1,.bool x1,.bool y1] 26)).alloc (.cells #[.func (.func g) #[] cap] 96)).alloc (.cells #[.bool false,.slice none 0 0,.slice none 0 0,.bool false,.slice none 0 0,.slice none 0 0,.bool false,.bool false] 26)=W0 at *;refine(HC.out _ HV.out.2.2.2 HV.out.1 HV.out.2.1).mono ?_;rintro e w1 ⟨s5,p5,k5,c5,q5,l5,d5,sz5,pz5,kz5,cz5,qz5,lz5,dz5,x5,y5,rfl,hG,hB1⟩;have HE:=hid (And.intro (HV.out.2.2.1.below hB1) (HV.out.2.2.2.trans (hB1.mono HV.out.2.2.2.size)));clear hB1;obtain⟨g0,g1,g2,g3,g4,g5,g6,g7,f0,f1,f2,f3,f4,f5,f6,f7⟩:=HE.out.1.cells8;go_wp2_with fail;exact askI_ret rfl rfl (HE.out.1.stores [.bool s5,.slice p5 k5 c5,.slice q5 l5 d5,.bool sz5,.slice pz5 kz5 cz5,.slice qz5 lz5 dz5,.bool x5,.bool y5] rfl nd8) ⟨s5,p5,k5,c5,q5,l5,d5,sz5,pz5,kz5,cz5,qz5,lz5,dz5,x5,y5,rfl,hid (GRep.stores (k:=0) (l:=[.bool s5,.slice p5 k5 c5,.slice q5 l5 d5,.bool sz5,.slice pz5 kz5 cz5,.slice qz5 lz5 dz5,.bool x5,.bool y5]) hG.out HE.out.1 nd8),Below.stores (k:=0) (l:=[.bool s5,.slice p5 k5 c5,.slice q5 l5 d5,.bool sz5,.slice pz5 kz5 cz5,.slice qz5 lz5 dz5,.bool x5,.bool y5]) HE.out.2 (by omega)⟩
theorem askI_ok(s1 p1 k1 c1 q1 l1 d1 sz1 pz1 kz1 cz1 qz1 lz1 dz1 x1 y1)(g:FuncId)(cap:Array Value)(a b:Tq)(D:Ti)(w:World)(ha:NRep w (.agg #[.bool s1,.slice p1 k1 c1,.slice q1 l1 d1]) a)(hb:NRep w (.agg #[.bool sz1,.slice pz1 kz1 cz1,.slice qz1 lz1 dz1]) b)(h1:large a.2.1 a.2.2=false)(h2:large b.2.1 b.2.2=false)(ht:TabOk w)
  (hfn:∀args W,(callFunc g args).run Tryz.prog W=.ok (.enter g args) W)
  (hop:∀W i3 s3 p3 k3 c3 q3 l3 d3 j3 sz3 pz3 kz3 cz3 qz3 lz3 dz3 e3,Bw w W→SRep W (.agg #[.int .i64 i3,.bool s3,.slice p3 k3 c3,.slice q3 l3 d3,.int .i64 j3,.bool sz3,.slice pz3 kz3 cz3,.slice qz3 lz3 dz3,.bool e3]) (srd (a,b,x1,y1))→Calls Tryz.prog g (#[.agg #[.int .i64 i3,.bool s3,.slice p3 k3 c3,.slice q3 l3 d3,.int .i64 j3,.bool sz3,.slice pz3 kz3 cz3,.slice qz3 lz3 dz3,.bool e3]] ++ cap) W (GP W D)):
  Calls Tryz.prog 72 #[.agg #[.bool s1,.slice p1 k1 c1,.slice q1 l1 d1,.bool sz1,.slice pz1 kz1 cz1,.slice qz1 lz1 dz1,.bool x1,.bool y1],.func (.func g) #[] cap] w (GT w 0 D):=
 askI_any s1 p1 k1 c1 q1 l1 d1 sz1 pz1 kz1 cz1 qz1 lz1 dz1 x1 y1 g cap D 0 w fun W hW hBa hBo=>
  finI_ok _ _ D W enter_ask1I fun W3 hW3=>ask1I_ok (w.heap.size+1) w.heap.size s1 p1 k1 c1 q1 l1 d1 sz1 pz1 kz1 cz1 qz1 lz1 dz1 x1 y1 g cap a b D W3 (hBo.below hW3) (hBa.below hW3) ((ha.below hW).below hW3) ((hb.below hW).below hW3) h1 h2 ((ht.below hW).below hW3) hfn
   fun W4 i3 s3 p3 k3 c3 q3 l3 d3 j3 sz3 pz3 kz3 cz3 qz3 lz3 dz3 e3 hW4 hS=>hop W4 i3 s3 p3 k3 c3 q3 l3 d3 j3 sz3 pz3 kz3 cz3 qz3 lz3 dz3 e3 ((hW.trans (hW3.mono hW.size)).trans (hW4.mono (hW.trans (hW3.mono hW.size)).size)) hS
theorem askI_large(s1 p1 k1 c1 q1 l1 d1 sz1 pz1 kz1 cz1 qz1 lz1 dz1 x1 y1)(g:FuncId)(cap:Array Value)(a b:Tq)(w:World)(ha:NRep w (.agg #[.bool s1,.slice p1 k1 c1,.slice q1 l1 d1]) a)(hb:NRep w (.agg #[.bool sz1,.slice pz1 kz1 cz1,.slice qz1 lz1 dz1]) b)(h1:(large a.2.1 a.2.2 || large b.2.1 b.2.2)=true)(ht:TabOk w):
  Calls Tryz.prog 72 #[.agg #[.bool s1,.slice p1 k1 c1,.slice q1 l1 d1,.bool sz1,.slice pz1 kz1 cz1,.slice qz1 lz1 dz1,.bool x1,.bool y1],.func (.func g) #[] cap] w (GT w 1 gzero):=
 askI_any s1 p1 k1 c1 q1 l1 d1 sz1 pz1 kz1 cz1 qz1 lz1 dz1 x1 y1 g cap gzero 1 w fun W hW hBa hBo=>
  fin_zero (finI_err _ _ 1 W enter_ask1I fun W3 hW3=>ask1I_large (w.heap.size+1) w.heap.size s1 p1 k1 c1 q1 l1 d1 sz1 pz1 kz1 cz1 qz1 lz1 dz1 x1 y1 g cap a b W3 (hBo.below hW3) (hBa.below hW3) ((ha.below hW).below hW3) ((hb.below hW).below hW3) h1 ((ht.below hW).below hW3))
theorem askI_err(s1 p1 k1 c1 q1 l1 d1 sz1 pz1 kz1 cz1 qz1 lz1 dz1 x1 y1)(g:FuncId)(cap:Array Value)(a b:Tq)(c:Int)(w:World)(ha:NRep w (.agg #[.bool s1,.slice p1 k1 c1,.slice q1 l1 d1]) a)(hb:NRep w (.agg #[.bool sz1,.slice pz1 kz1 cz1,.slice qz1 lz1 dz1]) b)(h1:large a.2.1 a.2.2=false)(h2:large b.2.1 b.2.2=false)(ht:TabOk w)
  (hfn:∀args W,(callFunc g args).run Tryz.prog W=.ok (.enter g args) W)
  (hop:∀W i3 s3 p3 k3 c3 q3 l3 d3 j3 sz3 pz3 kz3 cz3 qz3 lz3 dz3 e3,Bw w W→SRep W (.agg #[.int .i64 i3,.bool s3,.slice p3 k3 c3,.slice q3 l3 d3,.int .i64 j3,.bool sz3,.slice pz3 kz3 cz3,.slice qz3 lz3 dz3,.bool e3]) (srd (a,b,x1,y1))→Calls Tryz.prog g (#[.agg #[.int .i64 i3,.bool s3,.slice p3 k3 c3,.slice q3 l3 d3,.int .i64 j3,.bool sz3,.slice pz3 kz3 cz3,.slice qz3 lz3 dz3,.bool e3]] ++ cap) W fun e w'=>e=pan c∧Bw W w'):
  Calls Tryz.prog 72 #[.agg #[.bool s1,.slice p1 k1 c1,.slice q1 l1 d1,.bool sz1,.slice pz1 kz1 cz1,.slice qz1 lz1 dz1,.bool x1,.bool y1],.func (.func g) #[] cap] w (GT w c gzero):=
 askI_any s1 p1 k1 c1 q1 l1 d1 sz1 pz1 kz1 cz1 qz1 lz1 dz1 x1 y1 g cap gzero c w fun W hW hBa hBo=>
  fin_zero (finI_err _ _ c W enter_ask1I fun W3 hW3=>ask1I_err (w.heap.size+1) w.heap.size s1 p1 k1 c1 q1 l1 d1 sz1 pz1 kz1 cz1 qz1 lz1 dz1 x1 y1 g cap a b c W3 (hBo.below hW3) (hBa.below hW3) ((ha.below hW).below hW3) ((hb.below hW).below hW3) h1 h2 ((ht.below hW).below hW3) hfn
   fun W4 i3 s3 p3 k3 c3 q3 l3 d3 j3 sz3 pz3 kz3 cz3 qz3 lz3 dz3 e3 hW4 hS=>hop W4 i3 s3 p3 k3 c3 q3 l3 d3 j3 sz3 pz3 kz3 cz3 qz3 lz3 dz3 e3 ((hW.trans (hW3.mono hW.size)).trans (hW4.mono (hW.trans (hW3.mono hW.size)).size)) hS)
def icode (a:Ti):Int:=if ilarge a then 1 else 0
theorem ebig_rd{inf:Bool}{g:Int}{t:Tq}(hl:large t.2.1 t.2.2=false):ebig (rdE inf g t)=false:=by
 cases inf
 ·show(decide ((0:Int)=0) && big (fr t).2.1 (fr t).2.2)=false;rw[w64_not_big (fr_bd hl).1 (fr_bd hl).2];rfl
 ·show(decide (g=0) && big 0 0)=false;rw[w64_not_big (Nat.pow_pos W32_pos) (Nat.pow_pos W32_pos),Bool.and_false]
end Go.Proofs.YteblinkehldghaaGreatDoor
