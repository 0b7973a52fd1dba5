/- Operations that turn an interval into another one. The opposite of a set, of the reference. -/
import Derived.Test.YteblinkehldghaaGreatDoorAbL
import Derived.Test.YteblinkehldghaaGreatDoorEndsB
import Derived.Test.YteblinkehldghaaGreatDoorMkIQ
import Derived.Test.YteblinkehldghaaGreatDoorHasU
import Derived.Test.YteblinkehldghaaGreatDoorIvC
import Derived.Test.YteblinkehldghaaGreatDoorNegI
import Derived.Test.YteblinkehldghaaGreatDoorBothI
import Derived.WalkSmall
import Derived.Test.YteblinkehldghaaGreatDoorAbsI
import Derived.Test.YteblinkehldghaaGreatDoorBase
import Derived.Test.YteblinkehldghaaGreatDoorFracA
import Derived.Test.YteblinkehldghaaGreatDoorFracX
import Derived.Test.YteblinkehldghaaGreatDoorHasT
import Derived.Test.YteblinkehldghaaGreatDoorLawD
import Derived.Test.YteblinkehldghaaGreatDoorLen32
import Derived.Test.YteblinkehldghaaGreatDoorNatB
import Derived.Test.YteblinkehldghaaGreatDoorNatE
import Derived.Test.YteblinkehldghaaGreatDoorNatK
import Derived.Test.YteblinkehldghaaGreatDoorNatR
import Derived.Test.YteblinkehldghaaGreatDoorNatU
import Derived.Test.YteblinkehldghaaGreatDoorNatW
import Derived.Test.YteblinkehldghaaGreatDoorNumX
import Derived.Test.YteblinkehldghaaGreatDoorPowAQ
import Derived.Test.YteblinkehldghaaGreatDoorRefK
import Derived.Test.YteblinkehldghaaGreatDoorRefN
import Derived.Test.YteblinkehldghaaGreatDoorRefP
import Derived.Test.YteblinkehldghaaGreatDoorRefT
import Derived.Test.YteblinkehldghaaGreatDoorRefX
import Derived.Test.YteblinkehldghaaGreatDoorRefY
import Derived.Test.YteblinkehldghaaGreatDoorRefZ
import Derived.Test.YteblinkehldghaaGreatDoorSam
set_option maxHeartbeats 2000000
set_option maxRecDepth 100000
namespace Go.Proofs.YteblinkehldghaaGreatDoor
open Go.RowKit Dg
open And renaming intro→Ai
theorem one1_ret{W:World}{B:Nat}{a0 a1 a2 a3 a4 a5 a6 a7:Value}{tm:Array Value}{R:Ending→World→Prop}(h2:tm[4]?.getD undef=.pointer (some ⟨B,0,none⟩))(hV:Box W B #[a0,a1,a2,a3,a4,a5,a6,a7])(hR:R (.returned (.agg #[a0,a1,a2,a3,a4,a5,a6,a7])) W):
  bodyPost Tryz.prog Tryz.f73 R .ret {tmps:=tm,defers:=[]} W:=by
 obtain⟨g0,g1,g2,g3,g4,g5,g6,g7,_⟩:=hV.cells8;exact bodyPost_ret (v:=.agg #[a0,a1,a2,a3,a4,a5,a6,a7]) (by simp [results,Tryz.results73,go_sem,h2,g0,g1,g2,g3,g4,g5,g6,g7]) rfl hR
theorem one1_ok(i1 s1 p1 k1 c1 q1 l1 d1 j1 sz1 pz1 kz1 cz1 qz1 lz1 dz1 e1)(Bv Bo:Nat)(g:FuncId)(cap:Array Value)(x r:Ts)(w:World)
  (hBv:Box w Bv #[.bool true])(hBo:Box w Bo #[.func (.func g) #[] cap])(h:SRep w (.agg #[.int .i64 i1,.bool s1,.slice p1 k1 c1,.slice q1 l1 d1,.int .i64 j1,.bool sz1,.slice pz1 kz1 cz1,.slice qz1 lz1 dz1,.bool e1]) x)(hx:x.2.2=false)
  (hr:EOk 100000 r.1∧EOk 100000 r.2.1)(hb:ebig r.1=false∧ebig r.2.1=false)(he:r.2.2=false)
  (hfn:∀args W,(callFunc g args).run Tryz.prog W=.ok (.enter g args) W)
  (hop:∀W,Bw w W→SRep W (.agg #[.int .i64 i1,.bool s1,.slice p1 k1 c1,.slice q1 l1 d1,.int .i64 j1,.bool sz1,.slice pz1 kz1 cz1,.slice qz1 lz1 dz1,.bool e1]) x→Calls Tryz.prog g (#[.agg #[.int .i64 i1,.bool s1,.slice p1 k1 c1,.slice q1 l1 d1,.int .i64 j1,.bool sz1,.slice pz1 kz1 cz1,.slice qz1 lz1 dz1,.bool e1]] ++ cap) W (SP W r)):
  Calls Tryz.prog 73 #[.agg #[.int .i64 i1,.bool s1,.slice p1 k1 c1,.slice q1 l1 d1,.int .i64 j1,.bool sz1,.slice pz1 kz1 cz1,.slice qz1 lz1 dz1,.bool e1],.pointer (some ⟨Bv,0,none⟩),.pointer (some ⟨Bo,0,none⟩)] w (GP w (giv r)):=by
 have HO:=hid (fun (W:World) (hW:Bw w W)=>hop W hW (h.below hW));have HI:=hid (fun (W:World) i3 s3 p3 k3 c3 q3 l3 d3 j3 sz3 pz3 kz3 cz3 qz3 lz3 dz3 e3 (hS:SRep W (.agg #[.int .i64 i3,.bool s3,.slice p3 k3 c3,.slice q3 l3 d3,.int .i64 j3,.bool sz3,.slice pz3 kz3 cz3,.slice qz3 lz3 dz3,.bool e3]) r)=>siv_ok i3 s3 p3 k3 c3 q3 l3 d3 j3 sz3 pz3 kz3 cz3 qz3 lz3 dz3 e3 r W hS hr hb he);have e1':=h.ends.2.2;rw[hx] at e1';subst e1';obtain⟨D,hD⟩:∃D,D=giv r:=⟨_,rfl⟩;rw[←hD] at HI ⊢;have HP:=hid (Ai hBv hBo);have hlo:=hBo.lt;have hlv:=hBv.lt;clear h hx hr hb he hop hD hBv hBo;go_enter Tryz.func73,Tryz.ntmps73;go_upto_region 1 with fail;generalize hA:World.alloc _ _=W0;have HV:=hid (pre2_o hA nd9 nd8);clear hA;obtain⟨t0,_⟩:=(HP.out.1.below HV.out.2.2).cells1;go_wp2_with fail;refine(unless_ok 2 W0).mono ?_;rintro e w1 ⟨rfl,rfl⟩;clear t0;obtain⟨t0,_⟩:=(HP.out.2.below HV.out.2.2).cells1;obtain⟨m0,m1,m2,m3,m4,m5,m6,m7,m8,_⟩:=HV.out.1.cells9;go_wp2_with fail;refine(HO.out _ HV.out.2.2).mono ?_;rintro e w2 ⟨i3,s3,p3,k3,c3,q3,l3,d3,j3,sz3,pz3,kz3,cz3,qz3,lz3,dz3,e3,rfl,hS,hB2⟩;have HB2:=hid hB2;clear hB2 t0 m0 m1 m2 m3 m4 m5 m6 m7 m8;go_wp2_with fail;refine(HI.out w2 i3 s3 p3 k3 c3 q3 l3 d3 j3 sz3 pz3 kz3 cz3 qz3 lz3 dz3 e3 hS.out).mono ?_;rintro e w3 ⟨s5,p5,k5,c5,q5,l5,d5,sz5,pz5,kz5,cz5,qz5,lz5,dz5,x5,y5,rfl,hG,hB3⟩;have HE:=hid (Ai (HV.out.2.1.below (held_any HB2.out hB3)) (HV.out.2.2.trans ((held_any HB2.out hB3).mono HV.out.2.2.size)));clear hB3;obtain⟨g0,g1,g2,g3,g4,g5,g6,g7,f0,f1,f2,f3,f4,f5,f6,f7⟩:=HE.out.1.cells8;go_wp2_with fail;exact one1_ret rfl (HE.out.1.stores [.bool s5,.slice p5 k5 c5,.slice q5 l5 d5,.bool sz5,.slice pz5 kz5 cz5,.slice qz5 lz5 dz5,.bool x5,.bool y5] rfl nd8) ⟨s5,p5,k5,c5,q5,l5,d5,sz5,pz5,kz5,cz5,qz5,lz5,dz5,x5,y5,rfl,hid (GRep.stores (k:=0) (l:=[.bool s5,.slice p5 k5 c5,.slice q5 l5 d5,.bool sz5,.slice pz5 kz5 cz5,.slice qz5 lz5 dz5,.bool x5,.bool y5]) hG.out HE.out.1 nd8),Below.stores (k:=0) (l:=[.bool s5,.slice p5 k5 c5,.slice q5 l5 d5,.bool sz5,.slice pz5 kz5 cz5,.slice qz5 lz5 dz5,.bool x5,.bool y5]) HE.out.2 (by omega)⟩
theorem one1_empty(i1 s1 p1 k1 c1 q1 l1 d1 j1 sz1 pz1 kz1 cz1 qz1 lz1 dz1 e1)(Bv:Nat)(po:Value)(x:Ts)(w:World)
  (hBv:Box w Bv #[.bool true])(h:SRep w (.agg #[.int .i64 i1,.bool s1,.slice p1 k1 c1,.slice q1 l1 d1,.int .i64 j1,.bool sz1,.slice pz1 kz1 cz1,.slice qz1 lz1 dz1,.bool e1]) x)(hx:x.2.2=true):
  Calls Tryz.prog 73 #[.agg #[.int .i64 i1,.bool s1,.slice p1 k1 c1,.slice q1 l1 d1,.int .i64 j1,.bool sz1,.slice pz1 kz1 cz1,.slice qz1 lz1 dz1,.bool e1],.pointer (some ⟨Bv,0,none⟩),po] w (GP w (giv x)):=by
 have HI:=hid (fun (W:World) (hW:Bw w W)=>siv_empty i1 s1 p1 k1 c1 q1 l1 d1 j1 sz1 pz1 kz1 cz1 qz1 lz1 dz1 e1 x W (h.below hW) hx);have e1':=h.ends.2.2;rw[hx] at e1';subst e1';obtain⟨D,hD⟩:∃D,D=giv x:=⟨_,rfl⟩;rw[←hD] at HI ⊢;have HP:=hid hBv;have hlv:=hBv.lt;clear h hx hD hBv;go_enter Tryz.func73,Tryz.ntmps73;go_upto_region 1 with fail;generalize hA:World.alloc _ _=W0;have HV:=hid (pre2_o hA nd9 nd8);clear hA;obtain⟨t0,_⟩:=(HP.out.below HV.out.2.2).cells1;go_wp2_with fail;refine(unless_ok 2 W0).mono ?_;rintro e w1 ⟨rfl,rfl⟩;clear t0;obtain⟨m0,m1,m2,m3,m4,m5,m6,m7,m8,_⟩:=HV.out.1.cells9;go_wp2_with fail;refine(HI.out _ HV.out.2.2).mono ?_;rintro e w3 ⟨s5,p5,k5,c5,q5,l5,d5,sz5,pz5,kz5,cz5,qz5,lz5,dz5,x5,y5,rfl,hG,hB3⟩;have HE:=hid (Ai (HV.out.2.1.below hB3) (HV.out.2.2.trans (hB3.mono HV.out.2.2.size)));clear hB3 m0 m1 m2 m3 m4 m5 m6 m7 m8;obtain⟨g0,g1,g2,g3,g4,g5,g6,g7,f0,f1,f2,f3,f4,f5,f6,f7⟩:=HE.out.1.cells8;go_wp2_with fail;exact one1_ret rfl (HE.out.1.stores [.bool s5,.slice p5 k5 c5,.slice q5 l5 d5,.bool sz5,.slice pz5 kz5 cz5,.slice qz5 lz5 dz5,.bool x5,.bool y5] rfl nd8) ⟨s5,p5,k5,c5,q5,l5,d5,sz5,pz5,kz5,cz5,qz5,lz5,dz5,x5,y5,rfl,hid (GRep.stores (k:=0) (l:=[.bool s5,.slice p5 k5 c5,.slice q5 l5 d5,.bool sz5,.slice pz5 kz5 cz5,.slice qz5 lz5 dz5,.bool x5,.bool y5]) hG.out HE.out.1 nd8),Below.stores (k:=0) (l:=[.bool s5,.slice p5 k5 c5,.slice q5 l5 d5,.bool sz5,.slice pz5 kz5 cz5,.slice qz5 lz5 dz5,.bool x5,.bool y5]) HE.out.2 (by omega)⟩
theorem one1_arg(i1 s1 p1 k1 c1 q1 l1 d1 j1 sz1 pz1 kz1 cz1 qz1 lz1 dz1 e1)(Bv:Nat)(po:Value)(w:World)(hBv:Box w Bv #[.bool false]):
  Calls Tryz.prog 73 #[.agg #[.int .i64 i1,.bool s1,.slice p1 k1 c1,.slice q1 l1 d1,.int .i64 j1,.bool sz1,.slice pz1 kz1 cz1,.slice qz1 lz1 dz1,.bool e1],.pointer (some ⟨Bv,0,none⟩),po] w fun e w'=>e=pan 2∧Bw w w':=by
 have HP:=hid hBv;have hlv:=hBv.lt;clear hBv;go_enter Tryz.func73,Tryz.ntmps73;go_upto_region 1 with fail;generalize hA:World.alloc _ _=W0;have HV:=hid (pre2_o hA nd9 nd8);clear hA;obtain⟨t0,_⟩:=(HP.out.below HV.out.2.2).cells1;go_wp2_with fail;refine(unless_no 2 W0).mono ?_;rintro e w1 ⟨rfl,rfl⟩;exact⟨rfl,rfl,HV.out.2.2⟩
theorem enter_one1(args:Array Value)(w:World):(callFunc 73 args).run Tryz.prog w=.ok (.enter 73 args) w:=call_enter Tryz.func73 (by kernel_rfl) rfl args w
theorem one_ret{W:World}{B:Nat}{a0 a1 a2 a3 a4 a5 a6 a7 ev:Value}{tm:Array Value}{R:Ending→World→Prop}(h2:tm[6]?.getD undef=.pointer (some ⟨B,0,none⟩))(h3:tm[7]?.getD undef=ev)(hV:Box W B #[a0,a1,a2,a3,a4,a5,a6,a7])(hR:R (.returned (.tuple #[.agg #[a0,a1,a2,a3,a4,a5,a6,a7],ev])) W):
  bodyPost Tryz.prog Tryz.f36 R .ret {tmps:=tm,defers:=[]} W:=by
 obtain⟨g0,g1,g2,g3,g4,g5,g6,g7,_⟩:=hV.cells8;exact bodyPost_ret (v:=.tuple #[.agg #[a0,a1,a2,a3,a4,a5,a6,a7],ev]) (by simp [results,Tryz.results36,go_sem,h2,h3,g0,g1,g2,g3,g4,g5,g6,g7]) rfl hR
theorem one_any(s1 p1 k1 c1 q1 l1 d1 sz1 pz1 kz1 cz1 qz1 lz1 dz1 x1 y1 b)(g:FuncId)(cap:Array Value)(D:Ti)(c:Int)(w:World)
  (hask:∀W,Bw w W→Box W (w.heap.size+1) #[.bool b]→Box W (w.heap.size+1+1) #[.func (.func g) #[] cap]→
   Calls Tryz.prog 72 #[.agg #[.bool s1,.slice p1 k1 c1,.slice q1 l1 d1,.bool sz1,.slice pz1 kz1 cz1,.slice qz1 lz1 dz1,.bool x1,.bool y1],.func (.func 73) #[] #[.pointer (some ⟨w.heap.size+1,0,none⟩),.pointer (some ⟨w.heap.size+1+1,0,none⟩)]] W (GT W c D)):
  Calls Tryz.prog 36 #[.agg #[.bool s1,.slice p1 k1 c1,.slice q1 l1 d1,.bool sz1,.slice pz1 kz1 cz1,.slice qz1 lz1 dz1,.bool x1,.bool y1],.bool b,.func (.func g) #[] cap] w (GT w c D):=by
 have hmf:=makeFunc_run;have HC:=hid hask;clear hask;go_enter Tryz.func36,Tryz.ntmps36;go_wp2_with fail;have HV:=hid (pre4 w [.bool s1,.slice p1 k1 c1,.slice q1 l1 d1,.bool sz1,.slice pz1 kz1 cz1,.slice qz1 lz1 dz1,.bool x1,.bool y1] [.bool b] [.func (.func g) #[] cap] [.bool false,.slice none 0 0,.slice none 0 0,.bool false,.slice none 0 0,.slice none 0 0,.bool false,.bool false] 26 4 45 26 nd8 nd1 nd1 nd8);generalize(((w.alloc (.cells #[.bool s1,.slice p1 k1 c1,.slice q1 l1 d1,.bool sz1,.slice pz1 kz1 cz1,.slice qz1 lz1 dz1,.bool x1,.bool y1] 26)).alloc (.cells #[.bool b] 4)).alloc (.cells #[.func (.func g) #[] cap] 45)).alloc (.cells #[.bool false,.slice none 0 0,.slice none 0 0,.bool false,.slice none 0 0,.slice none 0 0,.bool false,.bool false] 26)=W0 at *;refine(HC.out _ HV.out.2.2.2.2 HV.out.2.1 HV.out.2.2.1).mono ?_;rintro e w1 ⟨s5,p5,k5,c5,q5,l5,d5,sz5,pz5,kz5,cz5,qz5,lz5,dz5,x5,y5,rfl,hG,hB1⟩;have HE:=hid (Ai (HV.out.2.2.2.1.below hB1) (HV.out.2.2.2.2.trans (hB1.mono HV.out.2.2.2.2.size)));clear hB1;obtain⟨g0,g1,g2,g3,g4,g5,g6,g7,f0,f1,f2,f3,f4,f5,f6,f7⟩:=HE.out.1.cells8;go_wp2_with fail;exact one_ret rfl rfl (HE.out.1.stores [.bool s5,.slice p5 k5 c5,.slice q5 l5 d5,.bool sz5,.slice pz5 kz5 cz5,.slice qz5 lz5 dz5,.bool x5,.bool y5] rfl nd8) ⟨s5,p5,k5,c5,q5,l5,d5,sz5,pz5,kz5,cz5,qz5,lz5,dz5,x5,y5,rfl,hid (GRep.stores (k:=0) (l:=[.bool s5,.slice p5 k5 c5,.slice q5 l5 d5,.bool sz5,.slice pz5 kz5 cz5,.slice qz5 lz5 dz5,.bool x5,.bool y5]) hG.out HE.out.1 nd8),Below.stores (k:=0) (l:=[.bool s5,.slice p5 k5 c5,.slice q5 l5 d5,.bool sz5,.slice pz5 kz5 cz5,.slice qz5 lz5 dz5,.bool x5,.bool y5]) HE.out.2 (by omega)⟩
def iop (f:Ts→Ts) (a:Ti):Ti:=if ilarge a then gzero else if (srd a).2.2 then giv (srd a) else giv (f (srd a))
theorem one_val(s1 p1 k1 c1 q1 l1 d1 sz1 pz1 kz1 cz1 qz1 lz1 dz1 x1 y1)(g:FuncId)(cap:Array Value)(f:Ts→Ts)(a b:Tq)(w:World)(ha:NRep w (.agg #[.bool s1,.slice p1 k1 c1,.slice q1 l1 d1]) a)(hb:NRep w (.agg #[.bool sz1,.slice pz1 kz1 cz1,.slice qz1 lz1 dz1]) b)(ht:TabOk w)
  (hfn:∀args W,(callFunc g args).run Tryz.prog W=.ok (.enter g args) W)
  (hr:large a.2.1 a.2.2=false→large b.2.1 b.2.2=false→(srd (a,b,x1,y1)).2.2=false→(EOk 100000 (f (srd (a,b,x1,y1))).1∧EOk 100000 (f (srd (a,b,x1,y1))).2.1)∧(ebig (f (srd (a,b,x1,y1))).1=false∧ebig (f (srd (a,b,x1,y1))).2.1=false)∧(f (srd (a,b,x1,y1))).2.2=false)
  (hop:large a.2.1 a.2.2=false→large b.2.1 b.2.2=false→(srd (a,b,x1,y1)).2.2=false→∀W i1 s1 p1 k1 c1 q1 l1 d1 j1 sz1 pz1 kz1 cz1 qz1 lz1 dz1 e1,Bw w W→SRep W (.agg #[.int .i64 i1,.bool s1,.slice p1 k1 c1,.slice q1 l1 d1,.int .i64 j1,.bool sz1,.slice pz1 kz1 cz1,.slice qz1 lz1 dz1,.bool e1]) (srd (a,b,x1,y1))→Calls Tryz.prog g (#[.agg #[.int .i64 i1,.bool s1,.slice p1 k1 c1,.slice q1 l1 d1,.int .i64 j1,.bool sz1,.slice pz1 kz1 cz1,.slice qz1 lz1 dz1,.bool e1]] ++ cap) W (SP W (f (srd (a,b,x1,y1))))):
  Calls Tryz.prog 36 #[.agg #[.bool s1,.slice p1 k1 c1,.slice q1 l1 d1,.bool sz1,.slice pz1 kz1 cz1,.slice qz1 lz1 dz1,.bool x1,.bool y1],.bool true,.func (.func g) #[] cap] w fun e w'=>∃s5 p5 k5 c5 q5 l5 d5 sz5 pz5 kz5 cz5 qz5 lz5 dz5 x5 y5,e=.returned (.tuple #[.agg #[.bool s5,.slice p5 k5 c5,.slice q5 l5 d5,.bool sz5,.slice pz5 kz5 cz5,.slice qz5 lz5 dz5,.bool x5,.bool y5],.int .i64 (icode (a,b,x1,y1))])∧Hid (GRep w' (.agg #[.bool s5,.slice p5 k5 c5,.slice q5 l5 d5,.bool sz5,.slice pz5 kz5 cz5,.slice qz5 lz5 dz5,.bool x5,.bool y5]) (iop f (a,b,x1,y1)))∧Bw w w':=by
 refine one_any s1 p1 k1 c1 q1 l1 d1 sz1 pz1 kz1 cz1 qz1 lz1 dz1 x1 y1 true g cap _ _ w fun W hW hBv hBo=>?_
 cases hL:(large a.2.1 a.2.2 || large b.2.1 b.2.2)
 ·have hla:ilarge (a,b,x1,y1)=false:=hL;rw[Bool.or_eq_false_iff] at hL
  have ec:icode (a,b,x1,y1)=0:=by unfold icode;rw[hla];rfl
  rw[ec];cases he:(srd (a,b,x1,y1)).2.2
  ·have eD:iop f (a,b,x1,y1)=giv (f (srd (a,b,x1,y1))):=by unfold iop;rw[hla,he];rfl
   rw[eD];have hh:=hr hL.1 hL.2 he
   exact askI_ok s1 p1 k1 c1 q1 l1 d1 sz1 pz1 kz1 cz1 qz1 lz1 dz1 x1 y1 _ _ a b _ W (ha.below hW) (hb.below hW) hL.1 hL.2 (ht.below hW) enter_one1 fun W4 i3 s3 p3 k3 c3 q3 l3 d3 j3 sz3 pz3 kz3 cz3 qz3 lz3 dz3 e3 hW4 hS=>
    one1_ok i3 s3 p3 k3 c3 q3 l3 d3 j3 sz3 pz3 kz3 cz3 qz3 lz3 dz3 e3 (w.heap.size+1) (w.heap.size+1+1) g cap _ _ W4 (hBv.below hW4) (hBo.below hW4) hS he hh.1 hh.2.1 hh.2.2 hfn fun W5 hW5 hS5=>
     hop hL.1 hL.2 he W5 i3 s3 p3 k3 c3 q3 l3 d3 j3 sz3 pz3 kz3 cz3 qz3 lz3 dz3 e3 ((hW.trans (hW4.mono hW.size)).trans (hW5.mono (hW.trans (hW4.mono hW.size)).size)) hS5
  ·have eD:iop f (a,b,x1,y1)=giv (srd (a,b,x1,y1)):=by unfold iop;rw[hla,he];rfl
   rw[eD]
   exact askI_ok s1 p1 k1 c1 q1 l1 d1 sz1 pz1 kz1 cz1 qz1 lz1 dz1 x1 y1 _ _ a b _ W (ha.below hW) (hb.below hW) hL.1 hL.2 (ht.below hW) enter_one1 fun W4 i3 s3 p3 k3 c3 q3 l3 d3 j3 sz3 pz3 kz3 cz3 qz3 lz3 dz3 e3 hW4 hS=>
    one1_empty i3 s3 p3 k3 c3 q3 l3 d3 j3 sz3 pz3 kz3 cz3 qz3 lz3 dz3 e3 (w.heap.size+1) _ _ W4 (hBv.below hW4) hS he
 ·have hla:ilarge (a,b,x1,y1)=true:=hL
  have ec:icode (a,b,x1,y1)=1:=by unfold icode;rw[hla];rfl
  have eD:iop f (a,b,x1,y1)=gzero:=by unfold iop;rw[hla];rfl
  rw[ec,eD];exact askI_large s1 p1 k1 c1 q1 l1 d1 sz1 pz1 kz1 cz1 qz1 lz1 dz1 x1 y1 _ _ a b W (ha.below hW) (hb.below hW) hL (ht.below hW)
end Go.Proofs.YteblinkehldghaaGreatDoor

set_option maxHeartbeats 2000000
set_option maxRecDepth 100000
namespace Go.Proofs.YteblinkehldghaaGreatDoor
open Go.RowKit Dg
open And renaming intro→Ai
theorem ebig_neg{x:Int×Tq}(h:ebig x=false):ebig (eneg x)=false:=by
 unfold eneg
 split
 case isTrue h0=>
  unfold ebig at h;rw[decide_eq_true h0] at h;exact h
 case isFalse h0=>
  unfold ebig;rw[decide_eq_false (by show ¬(-x.1=0);omega)];rfl
theorem neg_same{a b:Tq}{x y:Bool}(h1:large a.2.1 a.2.2=false)(h2:large b.2.1 b.2.2=false):
  (if (srd (a,b,x,y)).2.2 then giv (srd (a,b,x,y)) else giv (sneg (srd (a,b,x,y))))=japi (jminus (jof (a,b,x,y))):=by
 have ea:jrat (fneg (fr a))=outF (fneg (fr a)):=(QFit.of h1).neg.jrat;have eb:jrat (fneg (fr b))=outF (fneg (fr b)):=(QFit.of h2).neg.jrat
 cases x<;>cases y
 ·have e:(srd (a,b,false,false)).2.2=decide (0 < fcmp (fr a) (fr b)):=by
   show decide (0 < ecmp (0,fr a) (0,fr b))=_;rw[show ecmp (0,fr a) (0,fr b)=fcmp (fr a) (fr b) by unfold ecmp;simp]
  rw[giv_srd h1 h2,e];show _=japi (jminus (if decide (0 < fcmp (fr a) (fr b)) then jnone else (fr a,fr b,false,false,false)));rw[show jof (a,b,false,false)=(if decide (0 < fcmp (fr a) (fr b)) then jnone else (fr a,fr b,false,false,false)) from rfl]
  by_cases hc:0 < fcmp (fr a) (fr b)
  ·rw[decide_eq_true hc];rfl
  ·rw[decide_eq_false hc];show(outF (fneg (fr b)),outF (fneg (fr a)),false,false)=(jrat (fneg (fr b)),jrat (fneg (fr a)),false,false);rw[ea,eb]
 ·show((false,0,0),outF (fneg (fr a)),true,false)=(jrat (fneg (false,0,0)),jrat (fneg (fr a)),true,false);rw[ea,fneg_zero,jrat_zero]
 ·show(outF (fneg (fr b)),(false,0,0),false,true)=(jrat (fneg (fr b)),jrat (fneg (false,0,0)),false,true);rw[eb,fneg_zero,jrat_zero]
 ·show((false,0,0),(false,0,0),true,true)=(jrat (fneg (false,0,0)),jrat (fneg (false,0,0)),true,true);rw[fneg_zero,jrat_zero]
def sabs (x:Ts):Ts:=if 0≤esgn x.1 then x else if esgn x.2.1≤0 then sneg x else ((0,false,0,1),emax (eneg x.1) x.2.1,false)
theorem sabs_ret{W:World}{B:Nat}{a0 a1 a2 a3 a4 a5 a6 a7 a8:Value}{tm:Array Value}{R:Ending→World→Prop}(h2:tm[2]?.getD undef=.pointer (some ⟨B,0,none⟩))(hV:Box W B #[a0,a1,a2,a3,a4,a5,a6,a7,a8])(hR:R (.returned (.agg #[a0,a1,a2,a3,a4,a5,a6,a7,a8])) W):
  bodyPost Tryz.prog Tryz.f43 R .ret {tmps:=tm,defers:=[]} W:=by
 obtain⟨g0,g1,g2,g3,g4,g5,g6,g7,g8,_⟩:=hV.cells9;exact bodyPost_ret (v:=.agg #[a0,a1,a2,a3,a4,a5,a6,a7,a8]) (by simp [results,Tryz.results43,go_sem,h2,g0,g1,g2,g3,g4,g5,g6,g7,g8]) rfl hR
theorem sabs_pos(i1 s1 p1 k1 c1 q1 l1 d1 j1 sz1 pz1 kz1 cz1 qz1 lz1 dz1 e1)(x:Ts)(w:World)(h:SRep w (.agg #[.int .i64 i1,.bool s1,.slice p1 k1 c1,.slice q1 l1 d1,.int .i64 j1,.bool sz1,.slice pz1 kz1 cz1,.slice qz1 lz1 dz1,.bool e1]) x)(hc:0≤esgn x.1):
  Calls Tryz.prog 43 #[.agg #[.int .i64 i1,.bool s1,.slice p1 k1 c1,.slice q1 l1 d1,.int .i64 j1,.bool sz1,.slice pz1 kz1 cz1,.slice qz1 lz1 dz1,.bool e1]] w (SP w x):=by
 have h1:=h.ends;have HL:=hid (fun (W:World) (hW:Bw w W)=>esign_any i1 s1 p1 k1 c1 q1 l1 d1 x.1 W (h1.1.below hW));obtain⟨a,ha⟩:∃r,r=esgn x.1:=⟨_,rfl⟩;rw[←ha] at HL hc;have f1:decide (0≤a)=true:=decide_eq_true hc;have HZ:=hid h;clear h h1 ha hc;go_enter Tryz.func43,Tryz.ntmps43;go_wp2_with fail;generalize hA:World.alloc _ _=W0;have HV:=hid (pre2_o hA nd9 nd9);clear hA;obtain⟨m0,m1,m2,m3,m4,m5,m6,m7,m8,_⟩:=HV.out.1.cells9;go_wp2_with fail;refine(HL.out _ HV.out.2.2).mono ?_;rintro e w1 ⟨rfl,hB1⟩;clear m0 m1 m2 m3 m4 m5 m6 m7 m8;have HE:=hid (Ai (HV.out.2.1.below hB1) (Ai (HV.out.1.below hB1) (HV.out.2.2.trans (hB1.mono HV.out.2.2.size))));clear hB1;obtain⟨m0,m1,m2,m3,m4,m5,m6,m7,m8,_⟩:=HE.out.2.1.cells9;obtain⟨g0,g1,g2,g3,g4,g5,g6,g7,g8,n0,n1,n2,n3,n4,n5,n6,n7,n8⟩:=HE.out.1.cells9;go_wp2_with fail;exact sabs_ret rfl (HE.out.1.stores [.int .i64 i1,.bool s1,.slice p1 k1 c1,.slice q1 l1 d1,.int .i64 j1,.bool sz1,.slice pz1 kz1 cz1,.slice qz1 lz1 dz1,.bool e1] rfl nd9) ⟨_,_,_,_,_,_,_,_,_,_,_,_,_,_,_,_,_,rfl,hid (SRep.stores (k:=0) (l:=[.int .i64 i1,.bool s1,.slice p1 k1 c1,.slice q1 l1 d1,.int .i64 j1,.bool sz1,.slice pz1 kz1 cz1,.slice qz1 lz1 dz1,.bool e1]) (HZ.out.below HE.out.2.2) HE.out.1 nd9),Below.stores (k:=0) (l:=[.int .i64 i1,.bool s1,.slice p1 k1 c1,.slice q1 l1 d1,.int .i64 j1,.bool sz1,.slice pz1 kz1 cz1,.slice qz1 lz1 dz1,.bool e1]) HE.out.2.2 (by omega)⟩
theorem sabs_neg(i1 s1 p1 k1 c1 q1 l1 d1 j1 sz1 pz1 kz1 cz1 qz1 lz1 dz1 e1)(x:Ts)(A:Nat)(w:World)(h:SRep w (.agg #[.int .i64 i1,.bool s1,.slice p1 k1 c1,.slice q1 l1 d1,.int .i64 j1,.bool sz1,.slice pz1 kz1 cz1,.slice qz1 lz1 dz1,.bool e1]) x)(hx:EOk A x.1∧EOk A x.2.1)(hc:¬0≤esgn x.1)(hd:esgn x.2.1≤0):
  Calls Tryz.prog 43 #[.agg #[.int .i64 i1,.bool s1,.slice p1 k1 c1,.slice q1 l1 d1,.int .i64 j1,.bool sz1,.slice pz1 kz1 cz1,.slice qz1 lz1 dz1,.bool e1]] w (SP w (sneg x)):=by
 have h1:=h.ends;have HL:=hid (fun (W:World) (hW:Bw w W)=>esign_any i1 s1 p1 k1 c1 q1 l1 d1 x.1 W (h1.1.below hW));have HH:=hid (fun (W:World) (hW:Bw w W)=>esign_any j1 sz1 pz1 kz1 cz1 qz1 lz1 dz1 x.2.1 W (h1.2.1.below hW));have HN:=hid (fun (W:World) (hW:Bw w W)=>sneg_any i1 s1 p1 k1 c1 q1 l1 d1 j1 sz1 pz1 kz1 cz1 qz1 lz1 dz1 e1 x A W (h.below hW) hx);obtain⟨a,ha⟩:∃r,r=esgn x.1:=⟨_,rfl⟩;obtain⟨b,hb⟩:∃r,r=esgn x.2.1:=⟨_,rfl⟩;rw[←ha] at HL hc;rw[←hb] at HH hd;have f1:decide (0≤a)=false:=decide_eq_false hc;have f2:decide (b≤0)=true:=decide_eq_true hd;clear h h1 ha hb hc hd hx;go_enter Tryz.func43,Tryz.ntmps43;go_wp2_with fail;generalize hA:World.alloc _ _=W0;have HV:=hid (pre2_o hA nd9 nd9);clear hA;obtain⟨m0,m1,m2,m3,m4,m5,m6,m7,m8,_⟩:=HV.out.1.cells9;go_wp2_with fail;refine(HL.out _ HV.out.2.2).mono ?_;rintro e w1 ⟨rfl,hB1⟩;clear m0 m1 m2 m3 m4 m5 m6 m7 m8;have HE:=hid (Ai (HV.out.2.1.below hB1) (Ai (HV.out.1.below hB1) (HV.out.2.2.trans (hB1.mono HV.out.2.2.size))));clear hB1;obtain⟨m0,m1,m2,m3,m4,m5,m6,m7,m8,_⟩:=HE.out.2.1.cells9;go_wp2_with fail;refine(HH.out _ HE.out.2.2).mono ?_;rintro e w2 ⟨rfl,hB2⟩;clear m0 m1 m2 m3 m4 m5 m6 m7 m8;have HE2:=hid (Ai (HE.out.1.below hB2) (Ai (HE.out.2.1.below hB2) (HE.out.2.2.trans (hB2.mono HE.out.2.2.size))));clear hB2;obtain⟨m0,m1,m2,m3,m4,m5,m6,m7,m8,_⟩:=HE2.out.2.1.cells9;go_wp2_with fail;refine(HN.out _ HE2.out.2.2).mono ?_;rintro e w3 ⟨i3,s3,p3,k3,c3,q3,l3,d3,j3,sz3,pz3,kz3,cz3,qz3,lz3,dz3,e3,rfl,hS,hB3⟩;clear m0 m1 m2 m3 m4 m5 m6 m7 m8;have HE3:=hid (Ai (HE2.out.1.below hB3) (HE2.out.2.2.trans (hB3.mono HE2.out.2.2.size)));clear hB3;obtain⟨g0,g1,g2,g3,g4,g5,g6,g7,g8,n0,n1,n2,n3,n4,n5,n6,n7,n8⟩:=HE3.out.1.cells9;go_wp2_with fail;exact sabs_ret rfl (HE3.out.1.stores [.int .i64 i3,.bool s3,.slice p3 k3 c3,.slice q3 l3 d3,.int .i64 j3,.bool sz3,.slice pz3 kz3 cz3,.slice qz3 lz3 dz3,.bool e3] rfl nd9) ⟨i3,s3,p3,k3,c3,q3,l3,d3,j3,sz3,pz3,kz3,cz3,qz3,lz3,dz3,e3,rfl,hid (SRep.stores (k:=0) (l:=[.int .i64 i3,.bool s3,.slice p3 k3 c3,.slice q3 l3 d3,.int .i64 j3,.bool sz3,.slice pz3 kz3 cz3,.slice qz3 lz3 dz3,.bool e3]) hS.out HE3.out.1 nd9),Below.stores (k:=0) (l:=[.int .i64 i3,.bool s3,.slice p3 k3 c3,.slice q3 l3 d3,.int .i64 j3,.bool sz3,.slice pz3 kz3 cz3,.slice qz3 lz3 dz3,.bool e3]) HE3.out.2 (by omega)⟩
theorem sabs_mix(i1 s1 p1 k1 c1 q1 l1 d1 j1 sz1 pz1 kz1 cz1 qz1 lz1 dz1 e1)(x:Ts)(A:Nat)(w:World)(h:SRep w (.agg #[.int .i64 i1,.bool s1,.slice p1 k1 c1,.slice q1 l1 d1,.int .i64 j1,.bool sz1,.slice pz1 kz1 cz1,.slice qz1 lz1 dz1,.bool e1]) x)(hx:EOk A x.1∧EOk A x.2.1)(hA:A≤4000000)(hc:¬0≤esgn x.1)(hd:¬esgn x.2.1≤0):
  Calls Tryz.prog 43 #[.agg #[.int .i64 i1,.bool s1,.slice p1 k1 c1,.slice q1 l1 d1,.int .i64 j1,.bool sz1,.slice pz1 kz1 cz1,.slice qz1 lz1 dz1,.bool e1]] w (SP w ((0,false,0,1),emax (eneg x.1) x.2.1,false)):=by
 have h1:=h.ends;have HL:=hid (fun (W:World) (hW:Bw w W)=>esign_any i1 s1 p1 k1 c1 q1 l1 d1 x.1 W (h1.1.below hW));have HH:=hid (fun (W:World) (hW:Bw w W)=>esign_any j1 sz1 pz1 kz1 cz1 qz1 lz1 dz1 x.2.1 W (h1.2.1.below hW));have HM:=hid (fun (W:World) (hW:Bw w W)=>eneg_any i1 s1 p1 k1 c1 q1 l1 d1 x.1 A W (h1.1.below hW) hx.1);have HG:=hid (fun (W:World) i5 s5 p5 k5 c5 q5 l5 d5 (hW:Bw w W) (h5:ERep W (.agg #[.int .i64 i5,.bool s5,.slice p5 k5 c5,.slice q5 l5 d5]) (eneg x.1))=>egreatest_any i5 s5 p5 k5 c5 q5 l5 d5 j1 sz1 pz1 kz1 cz1 qz1 lz1 dz1 (eneg x.1) x.2.1 A W h5 (h1.2.1.below hW) hx.1.neg hx.2 hA);obtain⟨a,ha⟩:∃r,r=esgn x.1:=⟨_,rfl⟩;obtain⟨b,hb⟩:∃r,r=esgn x.2.1:=⟨_,rfl⟩;rw[←ha] at HL hc;rw[←hb] at HH hd;have f1:decide (0≤a)=false:=decide_eq_false hc;have f2:decide (b≤0)=false:=decide_eq_false hd;obtain⟨z,hz⟩:∃r,r=emax (eneg x.1) x.2.1:=⟨_,rfl⟩;rw[←hz] at HG ⊢;obtain⟨n,hn⟩:∃r,r=eneg x.1:=⟨_,rfl⟩;rw[←hn] at HG HM;clear h h1 ha hb hc hd hx hz hn;have HW:=hid whole_zero;go_enter Tryz.func43,Tryz.ntmps43;go_wp2_with fail;generalize hA:World.alloc _ _=W0;have HV:=hid (pre2_o hA nd9 nd9);clear hA;obtain⟨m0,m1,m2,m3,m4,m5,m6,m7,m8,_⟩:=HV.out.1.cells9;go_wp2_with fail;refine(HL.out _ HV.out.2.2).mono ?_;rintro e w1 ⟨rfl,hB1⟩;clear m0 m1 m2 m3 m4 m5 m6 m7 m8;have HE:=hid (Ai (HV.out.2.1.below hB1) (Ai (HV.out.1.below hB1) (HV.out.2.2.trans (hB1.mono HV.out.2.2.size))));clear hB1;obtain⟨m0,m1,m2,m3,m4,m5,m6,m7,m8,_⟩:=HE.out.2.1.cells9;go_wp2_with fail;refine(HH.out _ HE.out.2.2).mono ?_;rintro e w2 ⟨rfl,hB2⟩;clear m0 m1 m2 m3 m4 m5 m6 m7 m8;have HE2:=hid (Ai (HE.out.1.below hB2) (Ai (HE.out.2.1.below hB2) (HE.out.2.2.trans (hB2.mono HE.out.2.2.size))));clear hB2;have HQ:=hid (QQ.i1 (cs:=[.int .i64 i1,.bool s1,.slice p1 k1 c1,.slice q1 l1 d1,.int .i64 j1,.bool sz1,.slice pz1 kz1 cz1,.slice qz1 lz1 dz1,.bool e1]) HE2.out.2.1 HE2.out.2.2);have HS:=hid (fun (w':World) (hb:QQ w [(w.heap.size,[.int .i64 i1,.bool s1,.slice p1 k1 c1,.slice q1 l1 d1,.int .i64 j1,.bool sz1,.slice pz1 kz1 cz1,.slice qz1 lz1 dz1,.bool e1])] w')=>hb.s_9);have HN:Hid (Apart [(w.heap.size,[.int .i64 i1,.bool s1,.slice p1 k1 c1,.slice q1 l1 d1,.int .i64 j1,.bool sz1,.slice pz1 kz1 cz1,.slice qz1 lz1 dz1,.bool e1])] (w.heap.size+1)):=hid (ne1 (by omega));have HI:Hid (w.heap.size≤w.heap.size+1):=hid (by omega);go_wp2_with fail
 go_region_held3 (fun w'=>w'.cell? ⟨w.heap.size,0,none⟩=some (.int .i64 i1)∧w'.cell? ⟨w.heap.size,1,none⟩=some (.bool s1)∧w'.cell? ⟨w.heap.size,2,none⟩=some (.slice p1 k1 c1)∧w'.cell? ⟨w.heap.size,3,none⟩=some (.slice q1 l1 d1)∧w'.cell? ⟨w.heap.size,4,none⟩=some (.int .i64 j1)∧w'.cell? ⟨w.heap.size,5,none⟩=some (.bool sz1)∧w'.cell? ⟨w.heap.size,6,none⟩=some (.slice pz1 kz1 cz1)∧w'.cell? ⟨w.heap.size,7,none⟩=some (.slice qz1 lz1 dz1)∧w'.cell? ⟨w.heap.size,8,none⟩=some (.bool e1)∧Hid (QQ w [(w.heap.size,[.int .i64 i1,.bool s1,.slice p1 k1 c1,.slice q1 l1 d1,.int .i64 j1,.bool sz1,.slice pz1 kz1 cz1,.slice qz1 lz1 dz1,.bool e1])] w'))
  (first | (refine HS.out _ ?_;first | (with_reducible exact HQ.out.drew) | (with_reducible assumption) | (with_reducible refine QQ.st9 ?_ HN.out HI.out;assumption)))
  (first
   | (go_at_call 78;refine(HW.out _).mono ?_;rintro e wa ⟨i4,s4,p4,k4,c4,q4,l4,d4,rfl,hE1,hB1⟩;have hQ1:=HQ.out.drew.call hB1;have hV1:=(HE2.out.1.drew).below hB1)
   | (go_at_call 76;refine(HM.out _ hQ1.bel).mono ?_;rintro e wb ⟨i5,s5,p5,k5,c5,q5,l5,d5,rfl,hE2,hB2⟩;have hQ2:=hQ1.call hB2;have hV2:=hV1.below hB2)
   | (go_at_call 55;refine(HG.out _ i5 s5 p5 k5 c5 q5 l5 d5 hQ2.bel hE2.out).mono ?_;rintro e wc ⟨i6,s6,p6,k6,c6,q6,l6,d6,rfl,hE3,hB3⟩;have hQ3:=hQ2.call hB3;have hV3:=hV2.below hB3;obtain⟨g0,g1,g2,g3,g4,g5,g6,g7,g8,n0,n1,n2,n3,n4,n5,n6,n7,n8⟩:=hV3.cells9))
 rename_i hHeld
 clear hHeld;have HE3:=hid (Ai hV3 (Ai ((hE1.out.below hB2).below hB3) (Ai hE3.out hQ3.bel)));clear hQ1 hQ2 hQ3 hV1 hV2 hV3 hB1 hB2 hB3 hE1 hE2 hE3;go_wp2_with fail;exact sabs_ret rfl (HE3.out.1.stores [.int .i64 i4,.bool s4,.slice p4 k4 c4,.slice q4 l4 d4,.int .i64 i6,.bool s6,.slice p6 k6 c6,.slice q6 l6 d6,.bool false] rfl nd9) ⟨_,_,_,_,_,_,_,_,_,_,_,_,_,_,_,_,_,rfl,hid ⟨_,_,_,_,_,_,_,_,_,_,_,_,_,_,_,_,_,rfl,ERep.stores (k:=0) (l:=[.int .i64 i4,.bool s4,.slice p4 k4 c4,.slice q4 l4 d4,.int .i64 i6,.bool s6,.slice p6 k6 c6,.slice q6 l6 d6,.bool false]) HE3.out.2.1 HE3.out.1 nd9,ERep.stores (k:=0) (l:=[.int .i64 i4,.bool s4,.slice p4 k4 c4,.slice q4 l4 d4,.int .i64 i6,.bool s6,.slice p6 k6 c6,.slice q6 l6 d6,.bool false]) HE3.out.2.2.1 HE3.out.1 nd9,rfl⟩,Below.stores (k:=0) (l:=[.int .i64 i4,.bool s4,.slice p4 k4 c4,.slice q4 l4 d4,.int .i64 i6,.bool s6,.slice p6 k6 c6,.slice q6 l6 d6,.bool false]) HE3.out.2.2.2 (by omega)⟩
theorem sabs_any(i1 s1 p1 k1 c1 q1 l1 d1 j1 sz1 pz1 kz1 cz1 qz1 lz1 dz1 e1)(x:Ts)(A:Nat)(w:World)(h:SRep w (.agg #[.int .i64 i1,.bool s1,.slice p1 k1 c1,.slice q1 l1 d1,.int .i64 j1,.bool sz1,.slice pz1 kz1 cz1,.slice qz1 lz1 dz1,.bool e1]) x)(hx:EOk A x.1∧EOk A x.2.1)(hA:A≤4000000):
  Calls Tryz.prog 43 #[.agg #[.int .i64 i1,.bool s1,.slice p1 k1 c1,.slice q1 l1 d1,.int .i64 j1,.bool sz1,.slice pz1 kz1 cz1,.slice qz1 lz1 dz1,.bool e1]] w (SP w (sabs x)):=by
 unfold sabs
 by_cases hc:0≤esgn x.1
 ·rw[if_pos hc];exact sabs_pos i1 s1 p1 k1 c1 q1 l1 d1 j1 sz1 pz1 kz1 cz1 qz1 lz1 dz1 e1 x w h hc
 ·rw[if_neg hc]
  by_cases hd:esgn x.2.1≤0
  ·rw[if_pos hd];exact sabs_neg i1 s1 p1 k1 c1 q1 l1 d1 j1 sz1 pz1 kz1 cz1 qz1 lz1 dz1 e1 x A w h hx hc hd
  ·rw[if_neg hd];exact sabs_mix i1 s1 p1 k1 c1 q1 l1 d1 j1 sz1 pz1 kz1 cz1 qz1 lz1 dz1 e1 x A w h hx hA hc hd
end Go.Proofs.YteblinkehldghaaGreatDoor
