/- Root of the program. -/
import Derived.Test.YtheojajaefjecaaGreatDoorRndJ
import Derived.Test.YtheojajaefjecaaGreatDoorGrtT
import Derived.Test.YtheojajaefjecaaGreatDoorOrderA
import Derived.Test.YtheojajaefjecaaGreatDoorGrd
import Derived.Test.YtheojajaefjecaaGreatDoorHasU
import Derived.Test.YtheojajaefjecaaGreatDoorAbsI
import Derived.Test.YtheojajaefjecaaGreatDoorMkI
namespace Go.Proofs.YtheojajaefjecaaGreatDoor
open Go.RowKit Dg
def kon (v:Bool) (k:Ts→Bool) (a:Ti):Bool:=!ilarge a && v && !(srd a).2.2 && k (srd a)
def kcode (v:Bool) (k:Ts→Bool) (c:Int) (f:Ts→Ts) (a:Ti):Int:=if kon v k a then c else ocode v f a
def kval (v:Bool) (k:Ts→Bool) (f:Ts→Ts) (a:Ti):Ti:=if kon v k a then gzero else oval v f a
theorem one_k(s1 p1 k1 c1 q1 l1 d1 sz1 pz1 kz1 cz1 qz1 lz1 dz1 x1 y1 v)(g:FuncId)(cap:Array Value)(k:Ts→Bool)(c:Int)(f:Ts→Ts)(a b:Tq)(w:World)(ha:NRep w (.agg #[.bool s1,.slice p1 k1 c1,.slice q1 l1 d1]) a)(hb:NRep w (.agg #[.bool sz1,.slice pz1 kz1 cz1,.slice qz1 lz1 dz1]) b)(ht:TabOk w)
  (hfn:∀args W,(callFunc g args).run Tryz.prog W=.ok (.enter g args) W)
  (hr:v=true→large a.2.1 a.2.2=false→large b.2.1 b.2.2=false→(srd (a,b,x1,y1)).2.2=false→k (srd (a,b,x1,y1))=false→(EOk 100000 (f (srd (a,b,x1,y1))).1∧EOk 100000 (f (srd (a,b,x1,y1))).2.1)∧(f (srd (a,b,x1,y1))).2.2=false)
  (hop:v=true→large a.2.1 a.2.2=false→large b.2.1 b.2.2=false→(srd (a,b,x1,y1)).2.2=false→k (srd (a,b,x1,y1))=false→∀W i1 s1 p1 k1 c1 q1 l1 d1 j1 sz1 pz1 kz1 cz1 qz1 lz1 dz1 e1,Bw w W→SRep W (.agg #[.int .i64 i1,.bool s1,.slice p1 k1 c1,.slice q1 l1 d1,.int .i64 j1,.bool sz1,.slice pz1 kz1 cz1,.slice qz1 lz1 dz1,.bool e1]) (srd (a,b,x1,y1))→Calls Tryz.prog g (#[.agg #[.int .i64 i1,.bool s1,.slice p1 k1 c1,.slice q1 l1 d1,.int .i64 j1,.bool sz1,.slice pz1 kz1 cz1,.slice qz1 lz1 dz1,.bool e1]] ++ cap) W fun e w'=>∃i3 s3 p3 k3 c3 q3 l3 d3 j3 sz3 pz3 kz3 cz3 qz3 lz3 dz3 e3,e=.returned (.agg #[.int .i64 i3,.bool s3,.slice p3 k3 c3,.slice q3 l3 d3,.int .i64 j3,.bool sz3,.slice pz3 kz3 cz3,.slice qz3 lz3 dz3,.bool e3])∧Hid (SRep w' (.agg #[.int .i64 i3,.bool s3,.slice p3 k3 c3,.slice q3 l3 d3,.int .i64 j3,.bool sz3,.slice pz3 kz3 cz3,.slice qz3 lz3 dz3,.bool e3]) (f (srd (a,b,x1,y1))))∧Bw W w')
  (hop2:v=true→large a.2.1 a.2.2=false→large b.2.1 b.2.2=false→(srd (a,b,x1,y1)).2.2=false→k (srd (a,b,x1,y1))=true→∀W i1 s1 p1 k1 c1 q1 l1 d1 j1 sz1 pz1 kz1 cz1 qz1 lz1 dz1 e1,Bw w W→SRep W (.agg #[.int .i64 i1,.bool s1,.slice p1 k1 c1,.slice q1 l1 d1,.int .i64 j1,.bool sz1,.slice pz1 kz1 cz1,.slice qz1 lz1 dz1,.bool e1]) (srd (a,b,x1,y1))→Calls Tryz.prog g (#[.agg #[.int .i64 i1,.bool s1,.slice p1 k1 c1,.slice q1 l1 d1,.int .i64 j1,.bool sz1,.slice pz1 kz1 cz1,.slice qz1 lz1 dz1,.bool e1]] ++ cap) W fun e w'=>e=pan c∧Bw W w'):
  Calls Tryz.prog 58 #[.agg #[.bool s1,.slice p1 k1 c1,.slice q1 l1 d1,.bool sz1,.slice pz1 kz1 cz1,.slice qz1 lz1 dz1,.bool x1,.bool y1],.bool v,.func (.func g) #[] cap] w fun e w'=>∃s5 p5 k5 c5 q5 l5 d5 sz5 pz5 kz5 cz5 qz5 lz5 dz5 x5 y5,e=.returned (.tuple #[.agg #[.bool s5,.slice p5 k5 c5,.slice q5 l5 d5,.bool sz5,.slice pz5 kz5 cz5,.slice qz5 lz5 dz5,.bool x5,.bool y5],.int .i64 (kcode v k c f (a,b,x1,y1))])∧Hid (GRep w' (.agg #[.bool s5,.slice p5 k5 c5,.slice q5 l5 d5,.bool sz5,.slice pz5 kz5 cz5,.slice qz5 lz5 dz5,.bool x5,.bool y5]) (kval v k f (a,b,x1,y1)))∧Bw w w':=by
 unfold kcode kval;cases hk:kon v k (a,b,x1,y1)
 ·have hk':ilarge (a,b,x1,y1)=false→v=true→(srd (a,b,x1,y1)).2.2=false→k (srd (a,b,x1,y1))=false:=by
   intro h1 h2 h3;unfold kon at hk;rw[h1,h2,h3] at hk;exact hk
  exact one_gen s1 p1 k1 c1 q1 l1 d1 sz1 pz1 kz1 cz1 qz1 lz1 dz1 x1 y1 v g cap f a b w ha hb ht hfn
   (fun hv h1 h2 h3=>hr hv h1 h2 h3 (hk' (by show(large a.2.1 a.2.2 || large b.2.1 b.2.2)=false;rw[h1,h2];rfl) hv h3))
   (fun hv h1 h2 h3=>hop hv h1 h2 h3 (hk' (by show(large a.2.1 a.2.2 || large b.2.1 b.2.2)=false;rw[h1,h2];rfl) hv h3))
 ·unfold kon at hk;rw[Bool.and_eq_true,Bool.and_eq_true,Bool.and_eq_true] at hk;obtain⟨⟨⟨hla,hv⟩,he⟩,hkk⟩:=hk;subst hv
  have hL:(large a.2.1 a.2.2 || large b.2.1 b.2.2)=false:=by
   have:ilarge (a,b,x1,y1)=false:=by revert hla;cases ilarge (a,b,x1,y1)<;>decide
   exact this
  rw[Bool.or_eq_false_iff] at hL
  have he':(srd (a,b,x1,y1)).2.2=false:=by revert he;cases (srd (a,b,x1,y1)).2.2<;>decide
  exact one_any s1 p1 k1 c1 q1 l1 d1 sz1 pz1 kz1 cz1 qz1 lz1 dz1 x1 y1 true g cap _ _ w fun W hW hBv hBo=>
   askI_err s1 p1 k1 c1 q1 l1 d1 sz1 pz1 kz1 cz1 qz1 lz1 dz1 x1 y1 _ _ a b c W (ha.below hW) (hb.below hW) hL.1 hL.2 (ht.below hW) enter_one1 fun W4 i3 s3 p3 k3 c3 q3 l3 d3 j3 sz3 pz3 kz3 cz3 qz3 lz3 dz3 e3 hW4 hS=>
    one1_pan i3 s3 p3 k3 c3 q3 l3 d3 j3 sz3 pz3 kz3 cz3 qz3 lz3 dz3 e3 (w.heap.size+1) (w.heap.size+1+1) g cap _ c W4 (hBv.below hW4) (hBo.below hW4) hS he' hfn fun W5 hW5 hS5=>
     hop2 rfl hL.1 hL.2 he' hkk W5 i3 s3 p3 k3 c3 q3 l3 d3 j3 sz3 pz3 kz3 cz3 qz3 lz3 dz3 e3 ((hW.trans (hW4.mono hW.size)).trans (hW5.mono (hW.trans (hW4.mono hW.size)).size)) hS5
end Go.Proofs.YtheojajaefjecaaGreatDoor
