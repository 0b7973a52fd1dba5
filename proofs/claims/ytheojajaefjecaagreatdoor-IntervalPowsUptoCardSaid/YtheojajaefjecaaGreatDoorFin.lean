/- Operations of the program that end by a panic: finish. -/
import Derived.Test.YtheojajaefjecaaGreatDoorFinB
import Derived.Test.YtheojajaefjecaaGreatDoorIvC
set_option maxHeartbeats 1000000
set_option maxRecDepth 100000
namespace Go.Proofs.YtheojajaefjecaaGreatDoor
open Go.RowKit Dg
def GRep (w:World) (v:Value) (a:Ti):Prop:=
 ∃s p k c q l d sz pz kz cz qz lz dz x y,v=.agg #[.bool s,.slice p k c,.slice q l d,.bool sz,.slice pz kz cz,.slice qz lz dz,.bool x,.bool y]∧FNorm w (.agg #[.bool s,.slice p k c,.slice q l d]) a.1∧FNorm w (.agg #[.bool sz,.slice pz kz cz,.slice qz lz dz]) a.2.1∧x=a.2.2.1∧y=a.2.2.2
theorem GRep.below{w w':World}{v:Value}{a:Ti}(h:GRep w v a)(hb:Bw w w'):GRep w' v a:=by
 obtain⟨s,p,k,c,q,l,d,sz,pz,kz,cz,qz,lz,dz,x,y,hv,h1,h2,h3⟩:=h;exact⟨s,p,k,c,q,l,d,sz,pz,kz,cz,qz,lz,dz,x,y,hv,h1.below hb,h2.below hb,h3⟩
theorem GRep.stores{l:List Value}{w:World}{B k:Nat}{cs:Array Value}{v:Value}{a:Ti}(h:GRep w v a)(hB:Box w B cs)(hn:NDs l):GRep (Go.Proofs.YtheojajaefjecaaGreatDoor.stores w B k l) v a:=by
 obtain⟨s,p,k,c,q,l,d,sz,pz,kz,cz,qz,lz,dz,x,y,hv,h1,h2,h3⟩:=h;exact⟨s,p,k,c,q,l,d,sz,pz,kz,cz,qz,lz,dz,x,y,hv,FNorm.stores h1 hB hn,FNorm.stores h2 hB hn,h3⟩
def gzero:Ti:=((false,0,0),(false,0,0),false,false)
theorem GRep.zero(w:World):GRep w (.agg #[.bool false,.slice none 0 0,.slice none 0 0,.bool false,.slice none 0 0,.slice none 0 0,.bool false,.bool false]) gzero:=
 ⟨_,_,_,_,_,_,_,_,_,_,_,_,_,_,_,_,rfl,⟨_,_,rfl,Rep.nil,Rep.nil⟩,⟨_,_,rfl,Rep.nil,Rep.nil⟩,rfl,rfl⟩
theorem leaves_nil{fn:Func}{tm:Array Value}{R:Ending→World→Prop}{w:World}{v:Value}(h:(results fn tm).run Tryz.prog w=.ok v w)(hR:R (.returned v) w):Leaves Tryz.prog fn tm R [] (settle .returning) w:=⟨v,h,hR⟩
theorem finI_ok(g:FuncId)(cap:Array Value)(D:Ti)(w:World)(hfn:∀args W,(callFunc g args).run Tryz.prog W=.ok (.enter g args) W)
  (hop:∀W,Bw w W→Calls Tryz.prog g cap W fun e w'=>∃s1 p1 k1 c1 q1 l1 d1 sz1 pz1 kz1 cz1 qz1 lz1 dz1 x1 y1,e=.returned (.agg #[.bool s1,.slice p1 k1 c1,.slice q1 l1 d1,.bool sz1,.slice pz1 kz1 cz1,.slice qz1 lz1 dz1,.bool x1,.bool y1])∧Hid (GRep w' (.agg #[.bool s1,.slice p1 k1 c1,.slice q1 l1 d1,.bool sz1,.slice pz1 kz1 cz1,.slice qz1 lz1 dz1,.bool x1,.bool y1]) D)∧Bw W w'):
  Calls Tryz.prog 177 #[.func (.func g) #[] cap] w fun e w'=>∃s1 p1 k1 c1 q1 l1 d1 sz1 pz1 kz1 cz1 qz1 lz1 dz1 x1 y1,e=.returned (.tuple #[.agg #[.bool s1,.slice p1 k1 c1,.slice q1 l1 d1,.bool sz1,.slice pz1 kz1 cz1,.slice qz1 lz1 dz1,.bool x1,.bool y1],.int .i64 0])∧Hid (GRep w' (.agg #[.bool s1,.slice p1 k1 c1,.slice q1 l1 d1,.bool sz1,.slice pz1 kz1 cz1,.slice qz1 lz1 dz1,.bool x1,.bool y1]) D)∧Bw w w':=by
 have hmf:=makeFunc_run;have HO:=hid hop;clear hop
 go_enter_defers Tryz.func177,Tryz.ntmps177
 go_wp2_with fail;generalize hA:World.alloc _ _=W0;have HV:=hid (pre2_o hA nd8 nd1);clear hA;refine(HO.out _ HV.out.2.2).mono ?_;rintro e w1 ⟨s1,p1,k1,c1,q1,l1,d1,sz1,pz1,kz1,cz1,qz1,lz1,dz1,x1,y1,rfl,hG,hB⟩;have HV1:=hid (HV.out.1.below hB);have HV2:=hid (HV.out.2.1.below hB);have HB:=hid (HV.out.2.2.trans (hB.mono HV.out.2.2.size));clear hB
 have hne:w.heap.size≠w.heap.size+1:=by omega
 have hne':w.heap.size+1≠w.heap.size:=by omega
 have HX:Hid (Box (stores w1 w.heap.size 0 [.bool s1,.slice p1 k1 c1,.slice q1 l1 d1,.bool sz1,.slice pz1 kz1 cz1,.slice qz1 lz1 dz1,.bool x1,.bool y1]) w.heap.size #[.bool s1,.slice p1 k1 c1,.slice q1 l1 d1,.bool sz1,.slice pz1 kz1 cz1,.slice qz1 lz1 dz1,.bool x1,.bool y1]∧Box (stores w1 w.heap.size 0 [.bool s1,.slice p1 k1 c1,.slice q1 l1 d1,.bool sz1,.slice pz1 kz1 cz1,.slice qz1 lz1 dz1,.bool x1,.bool y1]) (w.heap.size+1) #[.int .i64 0]∧GRep (stores w1 w.heap.size 0 [.bool s1,.slice p1 k1 c1,.slice q1 l1 d1,.bool sz1,.slice pz1 kz1 cz1,.slice qz1 lz1 dz1,.bool x1,.bool y1]) (.agg #[.bool s1,.slice p1 k1 c1,.slice q1 l1 d1,.bool sz1,.slice pz1 kz1 cz1,.slice qz1 lz1 dz1,.bool x1,.bool y1]) D∧Bw w (stores w1 w.heap.size 0 [.bool s1,.slice p1 k1 c1,.slice q1 l1 d1,.bool sz1,.slice pz1 kz1 cz1,.slice qz1 lz1 dz1,.bool x1,.bool y1])):=
  hid ⟨HV1.out.stores [.bool s1,.slice p1 k1 c1,.slice q1 l1 d1,.bool sz1,.slice pz1 kz1 cz1,.slice qz1 lz1 dz1,.bool x1,.bool y1] rfl nd8,HV2.out.stores_other hne',hG.out.stores HV1.out nd8,Below.stores HB.out (Nat.le_refl _)⟩
 obtain⟨g0,g1,g2,g3,g4,g5,g6,g7,f0,f1,f2,f3,f4,f5,f6,f7⟩:=HV1.out.cells8;obtain⟨u0,v0⟩:=HV2.out.cells1;go_wp2_with fail
 change Leaves _ _ _ _ _ _ ((stores w1 w.heap.size 0 [.bool s1,.slice p1 k1 c1,.slice q1 l1 d1,.bool sz1,.slice pz1 kz1 cz1,.slice qz1 lz1 dz1,.bool x1,.bool y1]).setCell ⟨w.heap.size+1,0,none⟩ (.int .i64 0))
 generalize stores w1 w.heap.size 0 [.bool s1,.slice p1 k1 c1,.slice q1 l1 d1,.bool sz1,.slice pz1 kz1 cz1,.slice qz1 lz1 dz1,.bool x1,.bool y1]=w2 at *;refine leaves_cons (f:=212) (args:=#[.pointer (some ⟨w.heap.size+1,0,none⟩)]) (by simp) (by simp [go_sem]) ?_;refine(catchI_idle ⟨w.heap.size+1,0,none⟩ _).mono ?_;rintro e u' w'' ⟨rfl,rfl,rfl⟩
 have HL:Hid (GRep (w2.setCell ⟨w.heap.size+1,0,none⟩ (.int .i64 0)) (.agg #[.bool s1,.slice p1 k1 c1,.slice q1 l1 d1,.bool sz1,.slice pz1 kz1 cz1,.slice qz1 lz1 dz1,.bool x1,.bool y1]) D∧Bw w (w2.setCell ⟨w.heap.size+1,0,none⟩ (.int .i64 0))):=
  hid ⟨GRep.stores (k:=0) (l:=[.int .i64 0]) HX.out.2.2.1 HX.out.2.1 nd1,HX.out.2.2.2.setCell (Nat.le_succ _) _⟩
 have hVx:Box (w2.setCell ⟨w.heap.size+1,0,none⟩ (.int .i64 0)) (w.heap.size+1) #[.int .i64 0]:=HX.out.2.1.stores [.int .i64 0] rfl nd1;have hVy:Box (w2.setCell ⟨w.heap.size+1,0,none⟩ (.int .i64 0)) w.heap.size #[.bool s1,.slice p1 k1 c1,.slice q1 l1 d1,.bool sz1,.slice pz1 kz1 cz1,.slice qz1 lz1 dz1,.bool x1,.bool y1]:=Box.stores_other (k:=0) (l:=[.int .i64 0]) HX.out.1 hne;generalize w2.setCell ⟨w.heap.size+1,0,none⟩ (.int .i64 0)=w3 at *;obtain⟨c0,_⟩:=hVx.cells1;obtain⟨d0,d1',d2,d3,d4,d5,d6,d7,_⟩:=hVy.cells8;refine leaves_nil (v:=.tuple #[.agg #[.bool s1,.slice p1 k1 c1,.slice q1 l1 d1,.bool sz1,.slice pz1 kz1 cz1,.slice qz1 lz1 dz1,.bool x1,.bool y1],.int .i64 0]) (by simp [results,Tryz.results177,go_sem,c0,d0,d1',d2,d3,d4,d5,d6,d7]) ⟨s1,p1,k1,c1,q1,l1,d1,sz1,pz1,kz1,cz1,qz1,lz1,dz1,x1,y1,rfl,hid HL.out.1,HL.out.2⟩
theorem finI_err(g:FuncId)(cap:Array Value)(c)(w:World)(hfn:∀args W,(callFunc g args).run Tryz.prog W=.ok (.enter g args) W)
  (hop:∀W,Bw w W→Calls Tryz.prog g cap W fun e w'=>e=pan c∧Bw W w'):
  Calls Tryz.prog 177 #[.func (.func g) #[] cap] w fun e w'=>e=.returned (.tuple #[.agg #[.bool false,.slice none 0 0,.slice none 0 0,.bool false,.slice none 0 0,.slice none 0 0,.bool false,.bool false],.int .i64 c])∧Bw w w':=by
 have hmf:=makeFunc_run;have HO:=hid hop;clear hop
 go_enter_defers Tryz.func177,Tryz.ntmps177
 go_wp2_with fail;generalize hA:World.alloc _ _=W0;have HV:=hid (pre2_o hA nd8 nd1);clear hA;refine(HO.out _ HV.out.2.2).mono ?_;rintro e w1 ⟨rfl,hB⟩;have HV1:=hid (HV.out.1.below hB);have HV2:=hid (HV.out.2.1.below hB);have HB:=hid (HV.out.2.2.trans (hB.mono HV.out.2.2.size));clear hB
 have hne:w.heap.size≠w.heap.size+1:=by omega
 obtain⟨u0,v0⟩:=HV2.out.cells1;unfold pan;refine leaves_cons (f:=212) (args:=#[.pointer (some ⟨w.heap.size+1,0,none⟩)]) (by simp) (by simp [go_sem]) ?_;refine(catchI_panicking ⟨w.heap.size+1,0,none⟩ 0 c [] _ u0 v0).mono ?_;rintro e u' w'' ⟨rfl,rfl,rfl⟩;have HL:Hid (Bw w (w1.setCell ⟨w.heap.size+1,0,none⟩ (.int .i64 c))):=hid (HB.out.setCell (Nat.le_succ _) _);have hVx:Box (w1.setCell ⟨w.heap.size+1,0,none⟩ (.int .i64 c)) (w.heap.size+1) #[.int .i64 c]:=HV2.out.stores [.int .i64 c] rfl nd1;have hVy:Box (w1.setCell ⟨w.heap.size+1,0,none⟩ (.int .i64 c)) w.heap.size #[.bool false,.slice none 0 0,.slice none 0 0,.bool false,.slice none 0 0,.slice none 0 0,.bool false,.bool false]:=Box.stores_other (k:=0) (l:=[.int .i64 c]) HV1.out hne;generalize w1.setCell ⟨w.heap.size+1,0,none⟩ (.int .i64 c)=w3 at *;obtain⟨c0,_⟩:=hVx.cells1;obtain⟨d0,d1',d2,d3,d4,d5,d6,d7,_⟩:=hVy.cells8;refine leaves_nil (v:=.tuple #[.agg #[.bool false,.slice none 0 0,.slice none 0 0,.bool false,.slice none 0 0,.slice none 0 0,.bool false,.bool false],.int .i64 c]) (by simp [results,Tryz.results177,go_sem,c0,d0,d1',d2,d3,d4,d5,d6,d7]) ⟨rfl,HL.out⟩
end Go.Proofs.YtheojajaefjecaaGreatDoor
