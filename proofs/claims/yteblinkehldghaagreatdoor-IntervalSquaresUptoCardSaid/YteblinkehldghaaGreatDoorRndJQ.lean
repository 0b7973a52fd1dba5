/- Operations whose result has a large number; Round of the program. -/
import Derived.Test.YteblinkehldghaaGreatDoorAbL
import Derived.Test.YteblinkehldghaaGreatDoorBase
import Derived.Test.YteblinkehldghaaGreatDoorEndsB
import Derived.Test.YteblinkehldghaaGreatDoorMkIQ
import Derived.Test.YteblinkehldghaaGreatDoorFracA
import Derived.Test.YteblinkehldghaaGreatDoorFracX
import Derived.Test.YteblinkehldghaaGreatDoorHasT
import Derived.Test.YteblinkehldghaaGreatDoorHasU
import Derived.Test.YteblinkehldghaaGreatDoorIvC
import Derived.Test.YteblinkehldghaaGreatDoorLawD
import Derived.Test.YteblinkehldghaaGreatDoorLen32
import Derived.Test.YteblinkehldghaaGreatDoorNatB
import Derived.Test.YteblinkehldghaaGreatDoorNatE
import Derived.Test.YteblinkehldghaaGreatDoorNatK
import Derived.Test.YteblinkehldghaaGreatDoorNatR
import Derived.Test.YteblinkehldghaaGreatDoorNatU
import Derived.Test.YteblinkehldghaaGreatDoorNatW
import Derived.Test.YteblinkehldghaaGreatDoorNegI
import Derived.Test.YteblinkehldghaaGreatDoorAbsIQ
import Derived.Test.YteblinkehldghaaGreatDoorNumX
import Derived.Test.YteblinkehldghaaGreatDoorPowAQ
import Derived.Test.YteblinkehldghaaGreatDoorRefK
import Derived.Test.YteblinkehldghaaGreatDoorRefN
import Derived.Test.YteblinkehldghaaGreatDoorRefP
import Derived.Test.YteblinkehldghaaGreatDoorRefT
import Derived.Test.YteblinkehldghaaGreatDoorRefX
import Derived.Test.YteblinkehldghaaGreatDoorRefY
import Derived.Test.YteblinkehldghaaGreatDoorRefZ
import Derived.Test.YteblinkehldghaaGreatDoorSam
import Derived.Test.YteblinkehldghaaGreatDoorBothI
set_option maxHeartbeats 4000000
set_option maxRecDepth 100000
namespace Go.Proofs.YteblinkehldghaaGreatDoor
open Go.RowKit Dg
open List renaming setIfInBounds_toArray→Sa,set_cons_zero→Sz,set_cons_succ→Sc
theorem erat_big(i1 s1 p1 k1 c1 q1 l1 d1)(x:Int×Tq)(w:World)(h:ERep w (.agg #[.int .i64 i1,.bool s1,.slice p1 k1 c1,.slice q1 l1 d1]) x)(hx:EOk 100000 x)(hb:ebig x=true):
  Calls Tryz.prog 110 #[.agg #[.int .i64 i1,.bool s1,.slice p1 k1 c1,.slice q1 l1 d1]] w fun e w'=>e=pan 1∧Bw w w':=by
 obtain⟨hi,hF⟩:=h.frac;unfold ebig at hb;rw[Bool.and_eq_true] at hb;have hx0:x.1=0:=of_decide_eq_true hb.1;have hbg:=hb.2;rw[hx0] at hi;subst hi;have HA:=hid (fun (W:World) (hW:Bw w W)=>FracRat_open (.agg #[.bool s1,.slice p1 k1 c1,.slice q1 l1 d1]) x.2 W (hF.below hW) (lt_1g5 hx.bn) (lt_1g5 hx.bd));rw[hbg] at HA
 change Hid (∀(W:World),Bw w W→Calls _ _ _ W fun e w'=>Bw W w'∧FRes w' e 1 (outF x.2)) at HA
 obtain⟨r,hr⟩:∃r,r=outF x.2:=⟨_,rfl⟩;rw[←hr] at HA;clear hr h hx hF hx0 hb hbg;go_enter Tryz.func110,Tryz.ntmps110;go_wp2_with fail;generalize hA:World.alloc _ _=W0;have HV:=hid (pre2_o hA nd4 nd3);clear hA;refine(infinite_any 0 s1 p1 k1 c1 q1 l1 d1 W0).mono ?_;rintro e w1 ⟨rfl,hB1⟩;rw[show((0:Int) != 0)=false from rfl];have HE:=hid hB1;obtain⟨u0,u1,u2,u3,_⟩:=(HV.out.1.below hB1).cells4;clear hB1;go_wp2_with fail;refine(HA.out w1 (HV.out.2.2.trans (HE.out.mono HV.out.2.2.size))).mono ?_;rintro e w2 ⟨hB2,⟨_,rfl⟩ | ⟨h0,_⟩⟩
 case inr=>exact absurd h0 (by decide)
 have HE2:=hid (held_any HE.out hB2);clear hB2 u0 u1 u2 u3;unfold zeroF;go_wp2_with fail;refine(mustR_err false none 0 0 none 0 0 1 (by decide) w2).mono ?_;rintro e w3 ⟨rfl,hB3⟩;exact⟨rfl,rfl,HV.out.2.2.trans ((held_any HE2.out hB3).mono HV.out.2.2.size)⟩
theorem siv_big1(i1 s1 p1 k1 c1 q1 l1 d1 j1 sz1 pz1 kz1 cz1 qz1 lz1 dz1 e1)(x:Ts)(w:World)(h:SRep w (.agg #[.int .i64 i1,.bool s1,.slice p1 k1 c1,.slice q1 l1 d1,.int .i64 j1,.bool sz1,.slice pz1 kz1 cz1,.slice qz1 lz1 dz1,.bool e1]) x)(hx:EOk 100000 x.1∧EOk 100000 x.2.1)(hb:ebig x.1=true)(he:x.2.2=false):
  Calls Tryz.prog 75 #[.agg #[.int .i64 i1,.bool s1,.slice p1 k1 c1,.slice q1 l1 d1,.int .i64 j1,.bool sz1,.slice pz1 kz1 cz1,.slice qz1 lz1 dz1,.bool e1]] w fun e w'=>e=pan 1∧Bw w w':=by
 have h1:=h.ends;have HL:=hid (fun (W:World) (hW:Bw w W)=>erat_big i1 s1 p1 k1 c1 q1 l1 d1 x.1 W (h1.1.below hW) hx.1 hb);have hee:=h1.2.2;rw[he] at hee;subst hee;clear h hx hb he h1;go_enter Tryz.func75,Tryz.ntmps75;go_wp2_with fail;generalize hA:World.alloc _ _=W0;have HV:=hid (pre2_o hA nd9 nd8);clear hA;have HQ:=hid (QQ.i1 (cs:=[.int .i64 i1,.bool s1,.slice p1 k1 c1,.slice q1 l1 d1,.int .i64 j1,.bool sz1,.slice pz1 kz1 cz1,.slice qz1 lz1 dz1,.bool false]) HV.out.1 HV.out.2.2);have HS:=hid (fun (w':World) (hb:QQ w [(w.heap.size,[.int .i64 i1,.bool s1,.slice p1 k1 c1,.slice q1 l1 d1,.int .i64 j1,.bool sz1,.slice pz1 kz1 cz1,.slice qz1 lz1 dz1,.bool false])] w')=>hb.s_9);refine wp_region_held_drew (S:=(fun w'=>w'.cell? ⟨w.heap.size,0,none⟩=some (.int .i64 i1)∧w'.cell? ⟨w.heap.size,1,none⟩=some (.bool s1)∧w'.cell? ⟨w.heap.size,2,none⟩=some (.slice p1 k1 c1)∧w'.cell? ⟨w.heap.size,3,none⟩=some (.slice q1 l1 d1)∧w'.cell? ⟨w.heap.size,4,none⟩=some (.int .i64 j1)∧w'.cell? ⟨w.heap.size,5,none⟩=some (.bool sz1)∧w'.cell? ⟨w.heap.size,6,none⟩=some (.slice pz1 kz1 cz1)∧w'.cell? ⟨w.heap.size,7,none⟩=some (.slice qz1 lz1 dz1)∧w'.cell? ⟨w.heap.size,8,none⟩=some (.bool false)∧Hid (QQ w [(w.heap.size,[.int .i64 i1,.bool s1,.slice p1 k1 c1,.slice q1 l1 d1,.int .i64 j1,.bool sz1,.slice pz1 kz1 cz1,.slice qz1 lz1 dz1,.bool false])] w'))) (by kernel_rfl) (HS.out _ HQ.out.drew) (fun hHeld=>?_);refine wpAnyH_take (i:=0) (v:=?vv0) rfl (by kernel_rfl) (by kernel_rfl) (by kernel_rfl) (fun _ _ _ h=>h) (Or.inl ⟨by rfl,?hy0⟩) (by assumption) ?_
 case hy0=>(intro w' hSw;(try dsimp only at hSw);go_simp;first | done | with_reducible rfl)
 simp only[Act.put];refine wpAnyH_take (i:=1) (v:=?vv1) rfl (by kernel_rfl) (by kernel_rfl) (by kernel_rfl) (fun _ _ _ h=>h) (Or.inl ⟨by rfl,?hy1⟩) (by assumption) ?_
 case hy1=>(intro w' hSw;(try dsimp only at hSw);go_simp;first | done | with_reducible rfl)
 simp only[Act.put];refine wpAnyH_take (i:=3) (v:=?vv3) rfl (by kernel_rfl) (by kernel_rfl) (by kernel_rfl) (fun _ _ _ h=>h) (Or.inl ⟨by rfl,?hy3⟩) (by assumption) ?_
 case hy3=>(intro w' hSw;(try dsimp only at hSw);go_simp;first | done | with_reducible rfl)
 simp only[Act.put];refine wpAnyH_take (i:=4) (v:=?vv4) rfl (by kernel_rfl) (by kernel_rfl) (by kernel_rfl) (fun _ _ _ h=>h) (Or.inl ⟨by rfl,?hy4⟩) (by assumption) ?_
 case hy4=>(intro w' hSw;(try dsimp only at hSw);go_simp;first | done | with_reducible rfl)
 simp only[Act.put];refine wpAnyH_take (i:=6) (v:=?vv6) rfl (by kernel_rfl) (by kernel_rfl) (by kernel_rfl) (fun _ _ _ h=>h) (Or.inl ⟨by rfl,?hy6⟩) (by assumption) ?_
 case hy6=>(intro w' hSw;(try dsimp only at hSw);go_simp;first | done | with_reducible rfl)
 simp only[Act.put];refine wpAnyH_take (i:=7) (v:=?vv7) rfl (by kernel_rfl) (by kernel_rfl) (by kernel_rfl) (fun _ _ _ h=>h) (Or.inl ⟨by rfl,?hy7⟩) (by assumption) ?_
 case hy7=>(intro w' hSw;(try dsimp only at hSw);go_simp;first | done | with_reducible rfl)
 simp only[Act.put];refine wpAnyH_take (i:=9) (v:=?vv9) rfl (by kernel_rfl) (by kernel_rfl) (by kernel_rfl) (fun _ _ _ h=>h) (Or.inl ⟨by rfl,?hy9⟩) (by assumption) ?_
 case hy9=>(intro w' hSw;(try dsimp only at hSw);go_simp;first | done | with_reducible rfl)
 simp only[Act.put];refine wpAnyH_take (i:=10) (v:=?vv10) rfl (by kernel_rfl) (by kernel_rfl) (by kernel_rfl) (fun _ _ _ h=>h) (Or.inl ⟨by rfl,?hy10⟩) (by assumption) ?_
 case hy10=>(intro w' hSw;(try dsimp only at hSw);go_simp;first | done | with_reducible rfl)
 simp only[Act.put];refine wpAnyH_ready (rs:=[2]) (by kernel_rfl) (by simp) ?_;refine .cons rfl (fun K hK=>?_) .nil;go_simp;go_at_call 110;refine(HL.out _ HQ.out.drew.bel).mono ?_;rintro e wa ⟨rfl,hB1⟩;exact⟨rfl,rfl,(HQ.out.drew.call hB1).bel⟩
theorem siv_big2(i1 s1 p1 k1 c1 q1 l1 d1 j1 sz1 pz1 kz1 cz1 qz1 lz1 dz1 e1)(x:Ts)(w:World)(h:SRep w (.agg #[.int .i64 i1,.bool s1,.slice p1 k1 c1,.slice q1 l1 d1,.int .i64 j1,.bool sz1,.slice pz1 kz1 cz1,.slice qz1 lz1 dz1,.bool e1]) x)(hx:EOk 100000 x.1∧EOk 100000 x.2.1)(hb:ebig x.1=false)(hc:ebig x.2.1=true)(he:x.2.2=false):
  Calls Tryz.prog 75 #[.agg #[.int .i64 i1,.bool s1,.slice p1 k1 c1,.slice q1 l1 d1,.int .i64 j1,.bool sz1,.slice pz1 kz1 cz1,.slice qz1 lz1 dz1,.bool e1]] w fun e w'=>e=pan 1∧Bw w w':=by
 have h1:=h.ends;have HL:=hid (fun (W:World) (hW:Bw w W)=>erat_ok i1 s1 p1 k1 c1 q1 l1 d1 x.1 W (h1.1.below hW) hx.1 hb);have HH:=hid (fun (W:World) (hW:Bw w W)=>erat_big j1 sz1 pz1 kz1 cz1 qz1 lz1 dz1 x.2.1 W (h1.2.1.below hW) hx.2 hc);have hee:=h1.2.2;rw[he] at hee;subst hee;clear h hx hb hc he h1;go_enter Tryz.func75,Tryz.ntmps75;go_wp2_with fail;generalize hA:World.alloc _ _=W0;have HV:=hid (pre2_o hA nd9 nd8);clear hA;have HQ:=hid (QQ.i1 (cs:=[.int .i64 i1,.bool s1,.slice p1 k1 c1,.slice q1 l1 d1,.int .i64 j1,.bool sz1,.slice pz1 kz1 cz1,.slice qz1 lz1 dz1,.bool false]) HV.out.1 HV.out.2.2);have HS:=hid (fun (w':World) (hb:QQ w [(w.heap.size,[.int .i64 i1,.bool s1,.slice p1 k1 c1,.slice q1 l1 d1,.int .i64 j1,.bool sz1,.slice pz1 kz1 cz1,.slice qz1 lz1 dz1,.bool false])] w')=>hb.s_9);refine wp_region_held_drew (S:=(fun w'=>w'.cell? ⟨w.heap.size,0,none⟩=some (.int .i64 i1)∧w'.cell? ⟨w.heap.size,1,none⟩=some (.bool s1)∧w'.cell? ⟨w.heap.size,2,none⟩=some (.slice p1 k1 c1)∧w'.cell? ⟨w.heap.size,3,none⟩=some (.slice q1 l1 d1)∧w'.cell? ⟨w.heap.size,4,none⟩=some (.int .i64 j1)∧w'.cell? ⟨w.heap.size,5,none⟩=some (.bool sz1)∧w'.cell? ⟨w.heap.size,6,none⟩=some (.slice pz1 kz1 cz1)∧w'.cell? ⟨w.heap.size,7,none⟩=some (.slice qz1 lz1 dz1)∧w'.cell? ⟨w.heap.size,8,none⟩=some (.bool false)∧Hid (QQ w [(w.heap.size,[.int .i64 i1,.bool s1,.slice p1 k1 c1,.slice q1 l1 d1,.int .i64 j1,.bool sz1,.slice pz1 kz1 cz1,.slice qz1 lz1 dz1,.bool false])] w'))) (by kernel_rfl) (HS.out _ HQ.out.drew) (fun hHeld=>?_);refine wpAnyH_take (i:=0) (v:=?vv0) rfl (by kernel_rfl) (by kernel_rfl) (by kernel_rfl) (fun _ _ _ h=>h) (Or.inl ⟨by rfl,?hy0⟩) (by assumption) ?_
 case hy0=>(intro w' hSw;(try dsimp only at hSw);go_simp;first | done | with_reducible rfl)
 simp only[Act.put];refine wpAnyH_take (i:=1) (v:=?vv1) rfl (by kernel_rfl) (by kernel_rfl) (by kernel_rfl) (fun _ _ _ h=>h) (Or.inl ⟨by rfl,?hy1⟩) (by assumption) ?_
 case hy1=>(intro w' hSw;(try dsimp only at hSw);go_simp;first | done | with_reducible rfl)
 simp only[Act.put];refine wpAnyH_take (i:=3) (v:=?vv3) rfl (by kernel_rfl) (by kernel_rfl) (by kernel_rfl) (fun _ _ _ h=>h) (Or.inl ⟨by rfl,?hy3⟩) (by assumption) ?_
 case hy3=>(intro w' hSw;(try dsimp only at hSw);go_simp;first | done | with_reducible rfl)
 simp only[Act.put];refine wpAnyH_take (i:=4) (v:=?vv4) rfl (by kernel_rfl) (by kernel_rfl) (by kernel_rfl) (fun _ _ _ h=>h) (Or.inl ⟨by rfl,?hy4⟩) (by assumption) ?_
 case hy4=>(intro w' hSw;(try dsimp only at hSw);go_simp;first | done | with_reducible rfl)
 simp only[Act.put];refine wpAnyH_take (i:=6) (v:=?vv6) rfl (by kernel_rfl) (by kernel_rfl) (by kernel_rfl) (fun _ _ _ h=>h) (Or.inl ⟨by rfl,?hy6⟩) (by assumption) ?_
 case hy6=>(intro w' hSw;(try dsimp only at hSw);go_simp;first | done | with_reducible rfl)
 simp only[Act.put];refine wpAnyH_take (i:=7) (v:=?vv7) rfl (by kernel_rfl) (by kernel_rfl) (by kernel_rfl) (fun _ _ _ h=>h) (Or.inl ⟨by rfl,?hy7⟩) (by assumption) ?_
 case hy7=>(intro w' hSw;(try dsimp only at hSw);go_simp;first | done | with_reducible rfl)
 simp only[Act.put];refine wpAnyH_take (i:=9) (v:=?vv9) rfl (by kernel_rfl) (by kernel_rfl) (by kernel_rfl) (fun _ _ _ h=>h) (Or.inl ⟨by rfl,?hy9⟩) (by assumption) ?_
 case hy9=>(intro w' hSw;(try dsimp only at hSw);go_simp;first | done | with_reducible rfl)
 simp only[Act.put];refine wpAnyH_take (i:=10) (v:=?vv10) rfl (by kernel_rfl) (by kernel_rfl) (by kernel_rfl) (fun _ _ _ h=>h) (Or.inl ⟨by rfl,?hy10⟩) (by assumption) ?_
 case hy10=>(intro w' hSw;(try dsimp only at hSw);go_simp;first | done | with_reducible rfl)
 simp only[Act.put];refine wpAnyH_ready (rs:=[2]) (by kernel_rfl) (by simp) ?_;refine .cons rfl (fun K hK=>?_) .nil;go_simp;go_at_call 110;refine(HL.out _ HQ.out.drew.bel).mono ?_;rintro e wa ⟨s4,p4,k4,c4,q4,l4,d4,rfl,hE1,hB1⟩;have hQ1:=HQ.out.drew.call hB1;go_wp2_with fail;refine hK.out _ _ ?_ (fun hHeld=>?_)
 ·exact HS.out _ (hQ1)
 clear hK K;(try simp only[Act.put,Sa,Sz,Sc]);refine wpAnyH_ready (rs:=[5]) (by kernel_rfl) (by simp) ?_;refine .cons rfl (fun K hK=>?_) .nil;go_simp;go_at_call 110;refine(HH.out _ hQ1.bel).mono ?_;rintro e wb ⟨rfl,hB2⟩;exact⟨rfl,rfl,(hQ1.call hB2).bel⟩
def sbig (x:Ts):Bool:=ebig x.1 || ebig x.2.1
theorem siv_big(i1 s1 p1 k1 c1 q1 l1 d1 j1 sz1 pz1 kz1 cz1 qz1 lz1 dz1 e1)(x:Ts)(w:World)(h:SRep w (.agg #[.int .i64 i1,.bool s1,.slice p1 k1 c1,.slice q1 l1 d1,.int .i64 j1,.bool sz1,.slice pz1 kz1 cz1,.slice qz1 lz1 dz1,.bool e1]) x)(hx:EOk 100000 x.1∧EOk 100000 x.2.1)(hb:sbig x=true)(he:x.2.2=false):
  Calls Tryz.prog 75 #[.agg #[.int .i64 i1,.bool s1,.slice p1 k1 c1,.slice q1 l1 d1,.int .i64 j1,.bool sz1,.slice pz1 kz1 cz1,.slice qz1 lz1 dz1,.bool e1]] w fun e w'=>e=pan 1∧Bw w w':=by
 unfold sbig at hb;cases h1:ebig x.1
 ·rw[h1] at hb;exact siv_big2 i1 s1 p1 k1 c1 q1 l1 d1 j1 sz1 pz1 kz1 cz1 qz1 lz1 dz1 e1 x w h hx h1 hb he
 ·exact siv_big1 i1 s1 p1 k1 c1 q1 l1 d1 j1 sz1 pz1 kz1 cz1 qz1 lz1 dz1 e1 x w h hx h1 he
theorem one1_big(i1 s1 p1 k1 c1 q1 l1 d1 j1 sz1 pz1 kz1 cz1 qz1 lz1 dz1 e1)(Bv Bo:Nat)(g:FuncId)(cap:Array Value)(x r:Ts)(w:World)
  (hBv:Box w Bv #[.bool true])(hBo:Box w Bo #[.func (.func g) #[] cap])(h:SRep w (.agg #[.int .i64 i1,.bool s1,.slice p1 k1 c1,.slice q1 l1 d1,.int .i64 j1,.bool sz1,.slice pz1 kz1 cz1,.slice qz1 lz1 dz1,.bool e1]) x)(hx:x.2.2=false)(hr:EOk 100000 r.1∧EOk 100000 r.2.1)(hb:sbig r=true)(hrr:r.2.2=false)
  (hfn:∀args W,(callFunc g args).run Tryz.prog W=.ok (.enter g args) W)
  (hop:∀W,Bw w W→SRep W (.agg #[.int .i64 i1,.bool s1,.slice p1 k1 c1,.slice q1 l1 d1,.int .i64 j1,.bool sz1,.slice pz1 kz1 cz1,.slice qz1 lz1 dz1,.bool e1]) x→Calls Tryz.prog g (#[.agg #[.int .i64 i1,.bool s1,.slice p1 k1 c1,.slice q1 l1 d1,.int .i64 j1,.bool sz1,.slice pz1 kz1 cz1,.slice qz1 lz1 dz1,.bool e1]] ++ cap) W fun e w'=>∃i3 s3 p3 k3 c3 q3 l3 d3 j3 sz3 pz3 kz3 cz3 qz3 lz3 dz3 e3,e=.returned (.agg #[.int .i64 i3,.bool s3,.slice p3 k3 c3,.slice q3 l3 d3,.int .i64 j3,.bool sz3,.slice pz3 kz3 cz3,.slice qz3 lz3 dz3,.bool e3])∧Hid (SRep w' (.agg #[.int .i64 i3,.bool s3,.slice p3 k3 c3,.slice q3 l3 d3,.int .i64 j3,.bool sz3,.slice pz3 kz3 cz3,.slice qz3 lz3 dz3,.bool e3]) r)∧Bw W w'):
  Calls Tryz.prog 73 #[.agg #[.int .i64 i1,.bool s1,.slice p1 k1 c1,.slice q1 l1 d1,.int .i64 j1,.bool sz1,.slice pz1 kz1 cz1,.slice qz1 lz1 dz1,.bool e1],.pointer (some ⟨Bv,0,none⟩),.pointer (some ⟨Bo,0,none⟩)] w fun e w'=>e=pan 1∧Bw w w':=by
 have HO:=hid (fun (W:World) (hW:Bw w W)=>hop W hW (h.below hW));have HI:=hid (fun (W:World) i3 s3 p3 k3 c3 q3 l3 d3 j3 sz3 pz3 kz3 cz3 qz3 lz3 dz3 e3 (hS:SRep W (.agg #[.int .i64 i3,.bool s3,.slice p3 k3 c3,.slice q3 l3 d3,.int .i64 j3,.bool sz3,.slice pz3 kz3 cz3,.slice qz3 lz3 dz3,.bool e3]) r)=>siv_big i3 s3 p3 k3 c3 q3 l3 d3 j3 sz3 pz3 kz3 cz3 qz3 lz3 dz3 e3 r W hS hr hb hrr);have e1':=h.ends.2.2;rw[hx] at e1';subst e1';have HP:=hid (And.intro hBv hBo);have hlo:=hBo.lt;have hlv:=hBv.lt;clear h hx hr hb hrr hop hBv hBo;go_enter Tryz.func73,Tryz.ntmps73;go_upto_region 1 with fail;generalize hA:World.alloc _ _=W0;have HV:=hid (pre2_o hA nd9 nd8);clear hA;obtain⟨t0,_⟩:=(HP.out.1.below HV.out.2.2).cells1;go_wp2_with fail;refine(unless_ok 2 W0).mono ?_;rintro e w1 ⟨rfl,rfl⟩;clear t0;obtain⟨t0,_⟩:=(HP.out.2.below HV.out.2.2).cells1;obtain⟨m0,m1,m2,m3,m4,m5,m6,m7,m8,_⟩:=HV.out.1.cells9;go_wp2_with fail;refine(HO.out _ HV.out.2.2).mono ?_;rintro e w2 ⟨i3,s3,p3,k3,c3,q3,l3,d3,j3,sz3,pz3,kz3,cz3,qz3,lz3,dz3,e3,rfl,hS,hB2⟩;have HB2:=hid hB2;clear hB2 t0 m0 m1 m2 m3 m4 m5 m6 m7 m8;go_wp2_with fail;refine(HI.out w2 i3 s3 p3 k3 c3 q3 l3 d3 j3 sz3 pz3 kz3 cz3 qz3 lz3 dz3 e3 hS.out).mono ?_;rintro e w3 ⟨rfl,hB3⟩;exact⟨rfl,rfl,HV.out.2.2.trans ((held_any HB2.out hB3).mono HV.out.2.2.size)⟩
theorem one1_pan(i1 s1 p1 k1 c1 q1 l1 d1 j1 sz1 pz1 kz1 cz1 qz1 lz1 dz1 e1)(Bv Bo:Nat)(g:FuncId)(cap:Array Value)(x:Ts)(c:Int)(w:World)
  (hBv:Box w Bv #[.bool true])(hBo:Box w Bo #[.func (.func g) #[] cap])(h:SRep w (.agg #[.int .i64 i1,.bool s1,.slice p1 k1 c1,.slice q1 l1 d1,.int .i64 j1,.bool sz1,.slice pz1 kz1 cz1,.slice qz1 lz1 dz1,.bool e1]) x)(hx:x.2.2=false)
  (hfn:∀args W,(callFunc g args).run Tryz.prog W=.ok (.enter g args) W)
  (hop:∀W,Bw w W→SRep W (.agg #[.int .i64 i1,.bool s1,.slice p1 k1 c1,.slice q1 l1 d1,.int .i64 j1,.bool sz1,.slice pz1 kz1 cz1,.slice qz1 lz1 dz1,.bool e1]) x→Calls Tryz.prog g (#[.agg #[.int .i64 i1,.bool s1,.slice p1 k1 c1,.slice q1 l1 d1,.int .i64 j1,.bool sz1,.slice pz1 kz1 cz1,.slice qz1 lz1 dz1,.bool e1]] ++ cap) W fun e w'=>e=pan c∧Bw W w'):
  Calls Tryz.prog 73 #[.agg #[.int .i64 i1,.bool s1,.slice p1 k1 c1,.slice q1 l1 d1,.int .i64 j1,.bool sz1,.slice pz1 kz1 cz1,.slice qz1 lz1 dz1,.bool e1],.pointer (some ⟨Bv,0,none⟩),.pointer (some ⟨Bo,0,none⟩)] w fun e w'=>e=pan c∧Bw w w':=by
 have HO:=hid (fun (W:World) (hW:Bw w W)=>hop W hW (h.below hW));have e1':=h.ends.2.2;rw[hx] at e1';subst e1';have HP:=hid (And.intro hBv hBo);have hlo:=hBo.lt;have hlv:=hBv.lt;clear h hx hop hBv hBo;go_enter Tryz.func73,Tryz.ntmps73;go_upto_region 1 with fail;generalize hA:World.alloc _ _=W0;have HV:=hid (pre2_o hA nd9 nd8);clear hA;obtain⟨t0,_⟩:=(HP.out.1.below HV.out.2.2).cells1;go_wp2_with fail;refine(unless_ok 2 W0).mono ?_;rintro e w1 ⟨rfl,rfl⟩;clear t0;obtain⟨t0,_⟩:=(HP.out.2.below HV.out.2.2).cells1;obtain⟨m0,m1,m2,m3,m4,m5,m6,m7,m8,_⟩:=HV.out.1.cells9;go_wp2_with fail;refine(HO.out _ HV.out.2.2).mono ?_;rintro e w2 ⟨rfl,hB2⟩;exact⟨rfl,rfl,HV.out.2.2.trans (hB2.mono HV.out.2.2.size)⟩
def ocode (v:Bool) (f:Ts→Ts) (a:Ti):Int:=if ilarge a then 1 else if v then (if (srd a).2.2 then 0 else if sbig (f (srd a)) then 1 else 0) else 2
def oval (v:Bool) (f:Ts→Ts) (a:Ti):Ti:=if ilarge a then gzero else if v then (if (srd a).2.2 then giv (srd a) else if sbig (f (srd a)) then gzero else giv (f (srd a))) else gzero
theorem one_gen(s1 p1 k1 c1 q1 l1 d1 sz1 pz1 kz1 cz1 qz1 lz1 dz1 x1 y1 v)(g:FuncId)(cap:Array Value)(f:Ts→Ts)(a b:Tq)(w:World)(ha:NRep w (.agg #[.bool s1,.slice p1 k1 c1,.slice q1 l1 d1]) a)(hb:NRep w (.agg #[.bool sz1,.slice pz1 kz1 cz1,.slice qz1 lz1 dz1]) b)(ht:TabOk w)
  (hfn:∀args W,(callFunc g args).run Tryz.prog W=.ok (.enter g args) W)
  (hr:v=true→large a.2.1 a.2.2=false→large b.2.1 b.2.2=false→(srd (a,b,x1,y1)).2.2=false→(EOk 100000 (f (srd (a,b,x1,y1))).1∧EOk 100000 (f (srd (a,b,x1,y1))).2.1)∧(f (srd (a,b,x1,y1))).2.2=false)
  (hop:v=true→large a.2.1 a.2.2=false→large b.2.1 b.2.2=false→(srd (a,b,x1,y1)).2.2=false→∀W i1 s1 p1 k1 c1 q1 l1 d1 j1 sz1 pz1 kz1 cz1 qz1 lz1 dz1 e1,Bw w W→SRep W (.agg #[.int .i64 i1,.bool s1,.slice p1 k1 c1,.slice q1 l1 d1,.int .i64 j1,.bool sz1,.slice pz1 kz1 cz1,.slice qz1 lz1 dz1,.bool e1]) (srd (a,b,x1,y1))→Calls Tryz.prog g (#[.agg #[.int .i64 i1,.bool s1,.slice p1 k1 c1,.slice q1 l1 d1,.int .i64 j1,.bool sz1,.slice pz1 kz1 cz1,.slice qz1 lz1 dz1,.bool e1]] ++ cap) W fun e w'=>∃i3 s3 p3 k3 c3 q3 l3 d3 j3 sz3 pz3 kz3 cz3 qz3 lz3 dz3 e3,e=.returned (.agg #[.int .i64 i3,.bool s3,.slice p3 k3 c3,.slice q3 l3 d3,.int .i64 j3,.bool sz3,.slice pz3 kz3 cz3,.slice qz3 lz3 dz3,.bool e3])∧Hid (SRep w' (.agg #[.int .i64 i3,.bool s3,.slice p3 k3 c3,.slice q3 l3 d3,.int .i64 j3,.bool sz3,.slice pz3 kz3 cz3,.slice qz3 lz3 dz3,.bool e3]) (f (srd (a,b,x1,y1))))∧Bw W w'):
  Calls Tryz.prog 36 #[.agg #[.bool s1,.slice p1 k1 c1,.slice q1 l1 d1,.bool sz1,.slice pz1 kz1 cz1,.slice qz1 lz1 dz1,.bool x1,.bool y1],.bool v,.func (.func g) #[] cap] w fun e w'=>∃s5 p5 k5 c5 q5 l5 d5 sz5 pz5 kz5 cz5 qz5 lz5 dz5 x5 y5,e=.returned (.tuple #[.agg #[.bool s5,.slice p5 k5 c5,.slice q5 l5 d5,.bool sz5,.slice pz5 kz5 cz5,.slice qz5 lz5 dz5,.bool x5,.bool y5],.int .i64 (ocode v f (a,b,x1,y1))])∧Hid (GRep w' (.agg #[.bool s5,.slice p5 k5 c5,.slice q5 l5 d5,.bool sz5,.slice pz5 kz5 cz5,.slice qz5 lz5 dz5,.bool x5,.bool y5]) (oval v f (a,b,x1,y1)))∧Bw w w':=by
 refine one_any s1 p1 k1 c1 q1 l1 d1 sz1 pz1 kz1 cz1 qz1 lz1 dz1 x1 y1 v g cap _ _ w fun W hW hBv hBo=>?_
 unfold ocode oval;cases hL:(large a.2.1 a.2.2 || large b.2.1 b.2.2)
 ·have hla:ilarge (a,b,x1,y1)=false:=hL;rw[Bool.or_eq_false_iff] at hL;rw[hla];cases v
  ·exact askI_err s1 p1 k1 c1 q1 l1 d1 sz1 pz1 kz1 cz1 qz1 lz1 dz1 x1 y1 _ _ a b 2 W (ha.below hW) (hb.below hW) hL.1 hL.2 (ht.below hW) enter_one1 fun W4 i3 s3 p3 k3 c3 q3 l3 d3 j3 sz3 pz3 kz3 cz3 qz3 lz3 dz3 e3 hW4 hS=>
    one1_arg i3 s3 p3 k3 c3 q3 l3 d3 j3 sz3 pz3 kz3 cz3 qz3 lz3 dz3 e3 (w.heap.size+1) _ W4 (hBv.below hW4)
  ·cases he:(srd (a,b,x1,y1)).2.2
   ·have hh:=hr rfl hL.1 hL.2 he
    have hopW:=fun (W:World) (hW:Bw w W)=>hop rfl hL.1 hL.2 he W
    cases hbg:sbig (f (srd (a,b,x1,y1)))
    ·have hbb:ebig (f (srd (a,b,x1,y1))).1=false∧ebig (f (srd (a,b,x1,y1))).2.1=false:=by
      unfold sbig at hbg
      rwa [Bool.or_eq_false_iff] at hbg
     exact askI_ok s1 p1 k1 c1 q1 l1 d1 sz1 pz1 kz1 cz1 qz1 lz1 dz1 x1 y1 _ _ a b _ W (ha.below hW) (hb.below hW) hL.1 hL.2 (ht.below hW) enter_one1 fun W4 i3 s3 p3 k3 c3 q3 l3 d3 j3 sz3 pz3 kz3 cz3 qz3 lz3 dz3 e3 hW4 hS=>
      one1_ok i3 s3 p3 k3 c3 q3 l3 d3 j3 sz3 pz3 kz3 cz3 qz3 lz3 dz3 e3 (w.heap.size+1) (w.heap.size+1+1) g cap _ _ W4 (hBv.below hW4) (hBo.below hW4) hS he hh.1 hbb hh.2 hfn fun W5 hW5 hS5=>
       hop rfl hL.1 hL.2 he W5 i3 s3 p3 k3 c3 q3 l3 d3 j3 sz3 pz3 kz3 cz3 qz3 lz3 dz3 e3 ((hW.trans (hW4.mono hW.size)).trans (hW5.mono (hW.trans (hW4.mono hW.size)).size)) hS5
    ·exact askI_err s1 p1 k1 c1 q1 l1 d1 sz1 pz1 kz1 cz1 qz1 lz1 dz1 x1 y1 _ _ a b 1 W (ha.below hW) (hb.below hW) hL.1 hL.2 (ht.below hW) enter_one1 fun W4 i3 s3 p3 k3 c3 q3 l3 d3 j3 sz3 pz3 kz3 cz3 qz3 lz3 dz3 e3 hW4 hS=>
      one1_big i3 s3 p3 k3 c3 q3 l3 d3 j3 sz3 pz3 kz3 cz3 qz3 lz3 dz3 e3 (w.heap.size+1) (w.heap.size+1+1) g cap _ _ W4 (hBv.below hW4) (hBo.below hW4) hS he hh.1 hbg hh.2 hfn fun W5 hW5 hS5=>
       hop rfl hL.1 hL.2 he W5 i3 s3 p3 k3 c3 q3 l3 d3 j3 sz3 pz3 kz3 cz3 qz3 lz3 dz3 e3 ((hW.trans (hW4.mono hW.size)).trans (hW5.mono (hW.trans (hW4.mono hW.size)).size)) hS5
   ·exact askI_ok s1 p1 k1 c1 q1 l1 d1 sz1 pz1 kz1 cz1 qz1 lz1 dz1 x1 y1 _ _ a b _ W (ha.below hW) (hb.below hW) hL.1 hL.2 (ht.below hW) enter_one1 fun W4 i3 s3 p3 k3 c3 q3 l3 d3 j3 sz3 pz3 kz3 cz3 qz3 lz3 dz3 e3 hW4 hS=>
     one1_empty i3 s3 p3 k3 c3 q3 l3 d3 j3 sz3 pz3 kz3 cz3 qz3 lz3 dz3 e3 (w.heap.size+1) _ _ W4 (hBv.below hW4) hS he
 ·have hla:ilarge (a,b,x1,y1)=true:=hL;rw[hla];exact askI_large s1 p1 k1 c1 q1 l1 d1 sz1 pz1 kz1 cz1 qz1 lz1 dz1 x1 y1 _ _ a b W (ha.below hW) (hb.below hW) hL (ht.below hW)
def prec (p:Int):Bool:=decide (0≤p) && decide (p≤128)
theorem isPrecision_any(p)(w:World):Calls Tryz.prog 39 #[.int .i64 p] w fun e w'=>e=.returned (.bool (prec p))∧w=w':=by
 obtain⟨b,hb⟩:∃b,b=prec p:=⟨_,rfl⟩;rw[←hb];have hb':b=(decide (0≤p) && decide (p≤128)):=hb
 by_cases h0:0≤p<;>by_cases h1:p≤128
 ·have f0:decide (0≤p)=true:=decide_eq_true h0;have f1:decide (p≤128)=true:=decide_eq_true h1;rw[f0,f1] at hb';have HB:=hid hb';clear h0 h1 hb hb';go_enter Tryz.func39,Tryz.ntmps39;go_wp2_with fail
  go_ret
  exact⟨by rw[HB.out];rfl,rfl⟩
 ·have f0:decide (0≤p)=true:=decide_eq_true h0;have f1:decide (p≤128)=false:=decide_eq_false h1;rw[f0,f1] at hb';have HB:=hid hb';clear h0 h1 hb hb';go_enter Tryz.func39,Tryz.ntmps39;go_wp2_with fail
  go_ret
  exact⟨by rw[HB.out];rfl,rfl⟩
 all_goals
  have f0:decide (0≤p)=false:=decide_eq_false h0
  rw[f0] at hb'
  have HB:=hid hb'
  clear h0 h1 hb hb'
  go_enter Tryz.func39,Tryz.ntmps39
  go_wp2_with fail
  go_ret
  exact⟨by rw[HB.out];rfl,rfl⟩
def srnd (p:Int) (x:Ts):Ts:=sround x p.toNat
def jround (r:Tj) (p:Nat):Tj:=if r.2.2.2.2 then r else (if r.2.2.1 then r.1 else gdn r.1 p,if r.2.2.2.1 then r.2.1 else gup r.2.1 p,r.2.2.1,r.2.2.2.1,false)
def jbig (r:Tj):Bool:=big r.1.2.1 r.1.2.2 || big r.2.1.2.1 r.2.1.2.2
end Go.Proofs.YteblinkehldghaaGreatDoor
