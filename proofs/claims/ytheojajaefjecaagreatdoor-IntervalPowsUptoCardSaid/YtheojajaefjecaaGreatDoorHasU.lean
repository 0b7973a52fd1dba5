/- Whether a number is in an interval: the program. -/
import Derived.Test.YtheojajaefjecaaGreatDoorSets
import Derived.Test.YtheojajaefjecaaGreatDoorIvC
import Derived.Test.YtheojajaefjecaaGreatDoorFin
import Derived.Test.YtheojajaefjecaaGreatDoorHasT
namespace Go.Proofs.YtheojajaefjecaaGreatDoor
open Go.RowKit Dg
def shas (S:Ts) (x:Int×Tq):Bool:=decide (ecmp S.1 x≤0) && decide (ecmp x S.2.1≤0)
def hval (a:Ti) (t:Tq):Bool:=if ilarge a || large t.2.1 t.2.2 then false else shas (srd a) (0,fr t)
def jin (r:Tj) (t:Tq):Bool:=
 !r.2.2.2.2 && (r.2.2.1 || decide (fcmp r.1 t≤0)) && (r.2.2.2.1 || decide (fcmp t r.2.1≤0))
set_option maxHeartbeats 4000000 in
theorem jIn_any(s1 p1 k1 c1 q1 l1 d1 sz1 pz1 kz1 cz1 qz1 lz1 dz1 x1 y1 e1 s2 p2 k2 c2 q2 l2 d2)(r:Tj)(t:Tq)(w:World)(h:JRep w (.agg #[.bool s1,.slice p1 k1 c1,.slice q1 l1 d1,.bool sz1,.slice pz1 kz1 cz1,.slice qz1 lz1 dz1,.bool x1,.bool y1,.bool e1]) r)(h':QNorm w (.agg #[.bool s2,.slice p2 k2 c2,.slice q2 l2 d2]) t)(ht:QOk t)
  (hl:e1=false→x1=false→QOk r.1)(hh:e1=false→y1=false→QOk r.2.1):
  Calls Tryz.prog 52 #[.agg #[.bool s1,.slice p1 k1 c1,.slice q1 l1 d1,.bool sz1,.slice pz1 kz1 cz1,.slice qz1 lz1 dz1,.bool x1,.bool y1,.bool e1],.agg #[.bool s2,.slice p2 k2 c2,.slice q2 l2 d2]] w fun e w'=>e=.returned (.bool (jin r t))∧Bw w w':=by
 have hp:=h.parts;obtain⟨qa1,qa2,ex,ey,ee⟩:=hp
 have hj:jin r t=(!e1 && (x1 || decide (fcmp r.1 t≤0)) && (y1 || decide (fcmp t r.2.1≤0))):=by rw[ex,ey,ee];rfl
 rw[hj];have HL:=hid (fun (he:e1=false) (hx:x1=false) (W:World) (hW:Bw w W)=>rcmp_ok (.agg #[.bool s1,.slice p1 k1 c1,.slice q1 l1 d1]) (.agg #[.bool s2,.slice p2 k2 c2,.slice q2 l2 d2]) r.1 t W (qa1.below hW) (h'.below hW) (hl he hx) ht);have HH:=hid (fun (he:e1=false) (hy:y1=false) (W:World) (hW:Bw w W)=>rcmp_ok (.agg #[.bool s2,.slice p2 k2 c2,.slice q2 l2 d2]) (.agg #[.bool sz1,.slice pz1 kz1 cz1,.slice qz1 lz1 dz1]) t r.2.1 W (h'.below hW) (qa2.below hW) ht (hh he hy));obtain⟨cl,hcl⟩:∃c,c=fcmp r.1 t:=⟨_,rfl⟩;obtain⟨ch,hch⟩:∃c,c=fcmp t r.2.1:=⟨_,rfl⟩;rw[←hcl] at HL ⊢;rw[←hch] at HH ⊢;obtain⟨res,hres⟩:∃b,b=(!e1 && (x1 || decide (cl≤0)) && (y1 || decide (ch≤0))):=⟨_,rfl⟩;rw[←hres];have HX:=hid hres;clear h h' ht hl hh qa1 qa2 ex ey ee hj hcl hch hres;cases e1
 case true=>
  have hr:res=false:=by rw[HX.out];rfl
  rw[hr];clear hr HX;go_enter Tryz.func52,Tryz.ntmps52;go_wp2_with fail
  go_ret
  exact⟨rfl,below_alloc2 _ _ _⟩
 case false=>
  cases x1
  case false=>
   by_cases hl:cl≤0
   ·cases y1
    case false=>
     have hr:res=decide (ch≤0):=by rw[HX.out,decide_eq_true hl];rfl
     have HR:=hid hr;clear hr HX;go_enter Tryz.func52,Tryz.ntmps52;go_wp2_with fail;generalize hA:World.alloc _ _=W0;have HV:=hid (pre2_o hA nd9 nd3);clear hA;refine(HL.out (by trivial) (by trivial) _ HV.out.2.2).mono ?_;rintro e w1 ⟨rfl,hB1⟩;have HE:=hid (HV.out.2.2.trans (hB1.mono HV.out.2.2.size));obtain⟨m0,m1,m2,m3,m4,m5,m6,m7,m8,_⟩:=(HV.out.1.below hB1).cells9;obtain⟨n0,n1,n2,_⟩:=(HV.out.2.1.below hB1).cells3;clear hB1;go_wp2_with fail;refine(HH.out (by trivial) (by trivial) _ HE.out).mono ?_;rintro e w2 ⟨rfl,hB2⟩;have HE2:=hid (HE.out.trans (hB2.mono HE.out.size));clear hB2;go_wp2_with fail
     go_ret
     exact⟨by(rw[HR.out];try rfl),HE2.out⟩
    case true=>
     have hr:res=true:=by rw[HX.out,decide_eq_true hl];rfl
     have HR:=hid hr;clear hr HX;go_enter Tryz.func52,Tryz.ntmps52;go_wp2_with fail;generalize hA:World.alloc _ _=W0;have HV:=hid (pre2_o hA nd9 nd3);clear hA;refine(HL.out (by trivial) (by trivial) _ HV.out.2.2).mono ?_;rintro e w1 ⟨rfl,hB1⟩;have HE:=hid (HV.out.2.2.trans (hB1.mono HV.out.2.2.size));obtain⟨m0,m1,m2,m3,m4,m5,m6,m7,m8,_⟩:=(HV.out.1.below hB1).cells9;obtain⟨n0,n1,n2,_⟩:=(HV.out.2.1.below hB1).cells3;clear hB1;go_wp2_with fail
     go_ret
     exact⟨by(rw[HR.out];try rfl),HE.out⟩
   ·have hr:res=false:=by rw[HX.out,decide_eq_false hl];rfl
    have HR:=hid hr;clear hr HX;have hl':decide (cl≤0)=false:=decide_eq_false hl;go_enter Tryz.func52,Tryz.ntmps52;go_wp2_with fail;generalize hA:World.alloc _ _=W0;have HV:=hid (pre2_o hA nd9 nd3);clear hA;refine(HL.out (by trivial) (by trivial) _ HV.out.2.2).mono ?_;rintro e w1 ⟨rfl,hB1⟩;have HE:=hid (HV.out.2.2.trans (hB1.mono HV.out.2.2.size));obtain⟨m0,m1,m2,m3,m4,m5,m6,m7,m8,_⟩:=(HV.out.1.below hB1).cells9;obtain⟨n0,n1,n2,_⟩:=(HV.out.2.1.below hB1).cells3;clear hB1;go_wp2_with fail
    go_ret
    exact⟨by(rw[HR.out];try rfl),HE.out⟩
  case true=>
   cases y1
   case false=>
    have hr:res=decide (ch≤0):=by rw[HX.out];rfl
    have HR:=hid hr;go_enter Tryz.func52,Tryz.ntmps52;go_wp2_with fail;generalize hA:World.alloc _ _=W0;have HV:=hid (pre2_o hA nd9 nd3);clear hA;refine(HH.out (by trivial) (by trivial) _ HV.out.2.2).mono ?_;rintro e w2 ⟨rfl,hB2⟩;have HE2:=hid (HV.out.2.2.trans (hB2.mono HV.out.2.2.size));clear hB2;go_wp2_with fail
    go_ret
    exact⟨by(rw[HR.out];try rfl),HE2.out⟩
   case true=>
    have hr:res=true:=by rw[HX.out];rfl
    have HR:=hid hr;clear hr HX;rw[HR.out];go_enter Tryz.func52,Tryz.ntmps52;go_wp2_with fail
    go_ret
    exact⟨rfl,below_alloc2 _ _ _⟩
end Go.Proofs.YtheojajaefjecaaGreatDoor
