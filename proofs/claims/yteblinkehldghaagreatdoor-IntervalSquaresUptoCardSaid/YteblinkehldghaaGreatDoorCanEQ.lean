/- Roots on a grid: what they are. -/
import Derived.Test.YteblinkehldghaaGreatDoorAbsIQ
import Derived.Test.YteblinkehldghaaGreatDoorBase
import Derived.Test.YteblinkehldghaaGreatDoorEndsB
import Derived.Test.YteblinkehldghaaGreatDoorMkIQ
import Derived.Test.YteblinkehldghaaGreatDoorFracA
import Derived.Test.YteblinkehldghaaGreatDoorFracX
import Derived.Test.YteblinkehldghaaGreatDoorGrd
import Derived.Test.YteblinkehldghaaGreatDoorHasU
import Derived.Test.YteblinkehldghaaGreatDoorLen32
import Derived.Test.YteblinkehldghaaGreatDoorNatB
import Derived.Test.YteblinkehldghaaGreatDoorNatE
import Derived.Test.YteblinkehldghaaGreatDoorNatK
import Derived.Test.YteblinkehldghaaGreatDoorNatR
import Derived.Test.YteblinkehldghaaGreatDoorNatU
import Derived.Test.YteblinkehldghaaGreatDoorNatW
import Derived.Test.YteblinkehldghaaGreatDoorNegI
import Derived.Test.YteblinkehldghaaGreatDoorNumX
import Derived.Test.YteblinkehldghaaGreatDoorPowAQ
import Derived.Test.YteblinkehldghaaGreatDoorPowPQ
import Derived.Test.YteblinkehldghaaGreatDoorRefK
import Derived.Test.YteblinkehldghaaGreatDoorRefN
import Derived.Test.YteblinkehldghaaGreatDoorRefP
import Derived.Test.YteblinkehldghaaGreatDoorRefT
import Derived.Test.YteblinkehldghaaGreatDoorRefX
import Derived.Test.YteblinkehldghaaGreatDoorRndJQ
import Derived.Test.YteblinkehldghaaGreatDoorLawD
import Derived.Test.YteblinkehldghaaGreatDoorIvC
import Derived.Test.YteblinkehldghaaGreatDoorHasT
import Derived.Test.YteblinkehldghaaGreatDoorAbsI
namespace Go.Proofs.YteblinkehldghaaGreatDoor
open Go.RowKit Dg Rt
theorem fr_unique{a b:Tq}{p q:Int}(ha:IsFr a)(hb:IsFr b)(h1:FQ a p q)(h2:FQ b p q)(hq:0 < q):a=b:=by
 have h:=fcmp_Q h1 h2 hq hq;rw[show cmpI (p*q) (p*q)=0 by unfold cmpI;rw[if_neg (Int.lt_irrefl _),if_neg (Int.lt_irrefl _)]] at h;exact(fcmp_zero_iff ha hb).1 h
def BoxG (w:World) (F:Nat) (b:Bool):Prop:=∃t,w.heap[F]?=some (.cells #[.bool b] t (0,0))
theorem BoxG.lt{w:World}{F:Nat}{b:Bool}(h:BoxG w F b):F < w.heap.size:=by
 obtain⟨t,h0⟩:=h;exact(Array.getElem?_eq_some_iff.1 h0).1
theorem BoxG.keep{w w':World}{F N:Nat}{b:Bool}(h:BoxG w F b)(hN:F < N)(hb:Below N w w'):BoxG w' F b:=by
 obtain⟨t,h0⟩:=h;exact⟨t,by rw[hb.block _ hN];exact h0⟩
theorem BoxG.below{w w':World}{F:Nat}{b:Bool}(h:BoxG w F b)(hb:Bw w w'):BoxG w' F b:=h.keep h.lt hb
theorem BoxG.cell{w:World}{F:Nat}{b}(h:BoxG w F b):w.cell? ⟨F,0,none⟩=some (.bool b)∧w.frozen? ⟨F,0,none⟩=false:=by
 obtain⟨t,h0⟩:=h;simp [World.cell?,World.frozen?,h0]
theorem BoxG.set{w:World}{F:Nat}{b:Bool}(h:BoxG w F b)(c):BoxG (w.setCell ⟨F,0,none⟩ (.bool c)) F c:=by
 obtain⟨t,h0⟩:=h;exact⟨t,heap_setCell_same w F 0 _ t _ h0⟩
theorem BoxG.other{w:World}{F B:Nat}{b:Bool}(h:BoxG w F b)(hne:F≠B)(k:Nat)(u:Value):BoxG (w.setCell ⟨B,k,none⟩ u) F b:=by
 obtain⟨t,h0⟩:=h;exact⟨t,by rw[Below.heap_setCell _ _ _ _ hne];exact h0⟩
def UponF (F:Nat) (W w':World):Prop:=Below F W w'∧∀i,F < i→i < W.heap.size→w'.heap[i]?=W.heap[i]?
theorem UponF.of_below{F:Nat}{W w':World}(h:Bw W w')(hF:F < W.heap.size):UponF F W w':=⟨h.mono (Nat.le_of_lt hF),fun i _ hi=>h.block i hi⟩
theorem UponF.below{F:Nat}{W w1 w2:World}(h:UponF F W w1)(hF:F < W.heap.size)(hb:Bw w1 w2):UponF F W w2:=
 ⟨h.1.trans (hb.mono (Nat.le_trans (Nat.le_of_lt hF) h.1.size)),fun i h1 h2=>(hb.block i (Nat.lt_of_lt_of_le h2 h.1.size)).trans (h.2 i h1 h2)⟩
theorem UponF.drew{F:Nat}{W w':World}(h:UponF F W w'):UponF F W w'.drew:=⟨h.1.drew,h.2⟩
open Go.RowKit Dg
theorem fcmp_trans{a b c:Tq}(ha:0 < a.2.2)(hb:0 < b.2.2)(hc:0 < c.2.2)(h1:fcmp a b≤0)(h2:fcmp b c≤0):fcmp a c≤0:=by
 rw[fcmp_nonpos] at *;generalize sv a.1 a.2.1=x at *;generalize sv b.1 b.2.1=y at *;generalize sv c.1 c.2.1=z at *
 have ha':(0:Int) < a.2.2:=by omega
 have hb':(0:Int) < b.2.2:=by omega
 have hc':(0:Int) < c.2.2:=by omega
 generalize(a.2.2:Int)=p at *;generalize(b.2.2:Int)=q at *;generalize(c.2.2:Int)=r at *;refine Int.le_of_mul_le_mul_left (a:=q) ?_ hb';have e1:=Int.mul_le_mul_of_nonneg_right h1 (Int.le_of_lt hc');have e2:=Int.mul_le_mul_of_nonneg_right h2 (Int.le_of_lt ha')
 calc q*(x*r)=x*q*r:=by rw[Int.mul_comm q,Int.mul_right_comm]
  _≤y*p*r:=e1
  _=y*r*p:=by rw[Int.mul_right_comm]
  _≤z*q*p:=e2
  _=q*(z*p):=by rw[Int.mul_comm q,Int.mul_right_comm]
def kon (v:Bool) (k:Ts→Bool) (a:Ti):Bool:=!ilarge a && v && !(srd a).2.2 && k (srd a)
def kcode (v:Bool) (k:Ts→Bool) (c:Int) (f:Ts→Ts) (a:Ti):Int:=if kon v k a then c else ocode v f a
def kval (v:Bool) (k:Ts→Bool) (f:Ts→Ts) (a:Ti):Ti:=if kon v k a then gzero else oval v f a
theorem one_k(s1 p1 k1 c1 q1 l1 d1 sz1 pz1 kz1 cz1 qz1 lz1 dz1 x1 y1 v)(g:FuncId)(cap:Array Value)(k:Ts→Bool)(c:Int)(f:Ts→Ts)(a b:Tq)(w:World)(ha:NRep w (.agg #[.bool s1,.slice p1 k1 c1,.slice q1 l1 d1]) a)(hb:NRep w (.agg #[.bool sz1,.slice pz1 kz1 cz1,.slice qz1 lz1 dz1]) b)(ht:TabOk w)
  (hfn:∀args W,(callFunc g args).run Tryz.prog W=.ok (.enter g args) W)
  (hr:v=true→large a.2.1 a.2.2=false→large b.2.1 b.2.2=false→(srd (a,b,x1,y1)).2.2=false→k (srd (a,b,x1,y1))=false→(EOk 100000 (f (srd (a,b,x1,y1))).1∧EOk 100000 (f (srd (a,b,x1,y1))).2.1)∧(f (srd (a,b,x1,y1))).2.2=false)
  (hop:v=true→large a.2.1 a.2.2=false→large b.2.1 b.2.2=false→(srd (a,b,x1,y1)).2.2=false→k (srd (a,b,x1,y1))=false→∀W i1 s1 p1 k1 c1 q1 l1 d1 j1 sz1 pz1 kz1 cz1 qz1 lz1 dz1 e1,Bw w W→SRep W (.agg #[.int .i64 i1,.bool s1,.slice p1 k1 c1,.slice q1 l1 d1,.int .i64 j1,.bool sz1,.slice pz1 kz1 cz1,.slice qz1 lz1 dz1,.bool e1]) (srd (a,b,x1,y1))→Calls Tryz.prog g (#[.agg #[.int .i64 i1,.bool s1,.slice p1 k1 c1,.slice q1 l1 d1,.int .i64 j1,.bool sz1,.slice pz1 kz1 cz1,.slice qz1 lz1 dz1,.bool e1]] ++ cap) W fun e w'=>∃i3 s3 p3 k3 c3 q3 l3 d3 j3 sz3 pz3 kz3 cz3 qz3 lz3 dz3 e3,e=.returned (.agg #[.int .i64 i3,.bool s3,.slice p3 k3 c3,.slice q3 l3 d3,.int .i64 j3,.bool sz3,.slice pz3 kz3 cz3,.slice qz3 lz3 dz3,.bool e3])∧Hid (SRep w' (.agg #[.int .i64 i3,.bool s3,.slice p3 k3 c3,.slice q3 l3 d3,.int .i64 j3,.bool sz3,.slice pz3 kz3 cz3,.slice qz3 lz3 dz3,.bool e3]) (f (srd (a,b,x1,y1))))∧Bw W w')
  (hop2:v=true→large a.2.1 a.2.2=false→large b.2.1 b.2.2=false→(srd (a,b,x1,y1)).2.2=false→k (srd (a,b,x1,y1))=true→∀W i1 s1 p1 k1 c1 q1 l1 d1 j1 sz1 pz1 kz1 cz1 qz1 lz1 dz1 e1,Bw w W→SRep W (.agg #[.int .i64 i1,.bool s1,.slice p1 k1 c1,.slice q1 l1 d1,.int .i64 j1,.bool sz1,.slice pz1 kz1 cz1,.slice qz1 lz1 dz1,.bool e1]) (srd (a,b,x1,y1))→Calls Tryz.prog g (#[.agg #[.int .i64 i1,.bool s1,.slice p1 k1 c1,.slice q1 l1 d1,.int .i64 j1,.bool sz1,.slice pz1 kz1 cz1,.slice qz1 lz1 dz1,.bool e1]] ++ cap) W fun e w'=>e=pan c∧Bw W w'):
  Calls Tryz.prog 36 #[.agg #[.bool s1,.slice p1 k1 c1,.slice q1 l1 d1,.bool sz1,.slice pz1 kz1 cz1,.slice qz1 lz1 dz1,.bool x1,.bool y1],.bool v,.func (.func g) #[] cap] w fun e w'=>∃s5 p5 k5 c5 q5 l5 d5 sz5 pz5 kz5 cz5 qz5 lz5 dz5 x5 y5,e=.returned (.tuple #[.agg #[.bool s5,.slice p5 k5 c5,.slice q5 l5 d5,.bool sz5,.slice pz5 kz5 cz5,.slice qz5 lz5 dz5,.bool x5,.bool y5],.int .i64 (kcode v k c f (a,b,x1,y1))])∧Hid (GRep w' (.agg #[.bool s5,.slice p5 k5 c5,.slice q5 l5 d5,.bool sz5,.slice pz5 kz5 cz5,.slice qz5 lz5 dz5,.bool x5,.bool y5]) (kval v k f (a,b,x1,y1)))∧Bw w w':=by
 unfold kcode kval;cases hk:kon v k (a,b,x1,y1)
 ·have hk':ilarge (a,b,x1,y1)=false→v=true→(srd (a,b,x1,y1)).2.2=false→k (srd (a,b,x1,y1))=false:=by
   intro h1 h2 h3;unfold kon at hk;rw[h1,h2,h3] at hk;exact hk
  exact one_gen s1 p1 k1 c1 q1 l1 d1 sz1 pz1 kz1 cz1 qz1 lz1 dz1 x1 y1 v g cap f a b w ha hb ht hfn
   (fun hv h1 h2 h3=>hr hv h1 h2 h3 (hk' (by show(large a.2.1 a.2.2 || large b.2.1 b.2.2)=false;rw[h1,h2];rfl) hv h3))
   (fun hv h1 h2 h3=>hop hv h1 h2 h3 (hk' (by show(large a.2.1 a.2.2 || large b.2.1 b.2.2)=false;rw[h1,h2];rfl) hv h3))
 ·unfold kon at hk;rw[Bool.and_eq_true,Bool.and_eq_true,Bool.and_eq_true] at hk;obtain⟨⟨⟨hla,hv⟩,he⟩,hkk⟩:=hk;subst hv
  have hL:(large a.2.1 a.2.2 || large b.2.1 b.2.2)=false:=by
   have:ilarge (a,b,x1,y1)=false:=by revert hla;cases ilarge (a,b,x1,y1)<;>decide
   exact this
  rw[Bool.or_eq_false_iff] at hL
  have he':(srd (a,b,x1,y1)).2.2=false:=by revert he;cases (srd (a,b,x1,y1)).2.2<;>decide
  exact one_any s1 p1 k1 c1 q1 l1 d1 sz1 pz1 kz1 cz1 qz1 lz1 dz1 x1 y1 true g cap _ _ w fun W hW hBv hBo=>
   askI_err s1 p1 k1 c1 q1 l1 d1 sz1 pz1 kz1 cz1 qz1 lz1 dz1 x1 y1 _ _ a b c W (ha.below hW) (hb.below hW) hL.1 hL.2 (ht.below hW) enter_one1 fun W4 i3 s3 p3 k3 c3 q3 l3 d3 j3 sz3 pz3 kz3 cz3 qz3 lz3 dz3 e3 hW4 hS=>
    one1_pan i3 s3 p3 k3 c3 q3 l3 d3 j3 sz3 pz3 kz3 cz3 qz3 lz3 dz3 e3 (w.heap.size+1) (w.heap.size+1+1) g cap _ c W4 (hBv.below hW4) (hBo.below hW4) hS he' hfn fun W5 hW5 hS5=>
     hop2 rfl hL.1 hL.2 he' hkk W5 i3 s3 p3 k3 c3 q3 l3 d3 j3 sz3 pz3 kz3 cz3 qz3 lz3 dz3 e3 ((hW.trans (hW4.mono hW.size)).trans (hW5.mono (hW.trans (hW4.mono hW.size)).size)) hS5
def jmix (r:Tj):Tj:=if r.2.2.1 || r.2.2.2.1 then ((false,0,0),(false,0,0),false,true,false) else ((false,0,0),qmax (fneg r.1) r.2.1,false,false,false)
theorem QOk.neg{t:Tq}(h:QOk t):QOk (fneg t):=by
 obtain⟨s,n,d,hd,rfl⟩:=h.1;rw[fneg_frac hd];exact⟨⟨_,_,_,hd,rfl⟩,h.2.1,h.2.2⟩
def sgo (x y:Bool) (a b:Int):Int:=if !x && decide (0≤a) then (if !y && decide (b≤0) then 0 else if decide (0 < a) then 2 else 1) else if !y && decide (b≤0) then (if decide (b < 0) then -2 else -1) else 3
def jsg (r:Tj):Int:=if r.2.2.2.2 then 4 else sgo r.2.2.1 r.2.2.2.1 (sgn r.1.1 r.1.2.1) (sgn r.2.1.1 r.2.1.2.1)
theorem enter_sabs(args:Array Value)(w:World):(callFunc 43 args).run Tryz.prog w=.ok (.enter 43 args) w:=call_enter Tryz.func43 (by kernel_rfl) rfl args w
theorem sabs_in{x:Ts}(h:x.2.2=false):(sabs x).2.2=false:=by
 unfold sabs
 split
 ·exact h
 ·split<;>rfl
theorem EOk.max{A:Nat}{x y:Int×Tq}(hx:EOk A x)(hy:EOk A y):EOk A (emax x y):=by unfold emax;split<;>assumption
theorem ebig_max{x y:Int×Tq}(hx:ebig x=false)(hy:ebig y=false):ebig (emax x y)=false:=by unfold emax;split<;>assumption
theorem isFr_zero:IsFr (false,0,1):=⟨false,0,1,Nat.one_pos,by decide⟩
theorem EOk.zero{A:Nat}(hA:0 < A):EOk A (0,false,0,1):=⟨fun _=>isFr_zero,fun h=>absurd rfl h,Nat.pow_pos W32_pos,Nat.one_lt_pow (by omega) (by decide)⟩
theorem ebig_zero:ebig (0,false,0,1)=false:=by decide+kernel
theorem sabs_fit{a b:Tq}{x y:Bool}(h1:large a.2.1 a.2.2=false)(h2:large b.2.1 b.2.2=false):
  (EOk 100000 (sabs (srd (a,b,x,y))).1∧EOk 100000 (sabs (srd (a,b,x,y))).2.1)∧ebig (sabs (srd (a,b,x,y))).1=false∧ebig (sabs (srd (a,b,x,y))).2.1=false:=by
 have e1:=(rdE_ok (inf:=x) (g:=-1) (.inr rfl) h1).le (show 64≤100000 by omega);have e2:=(rdE_ok (inf:=y) (g:=1) (.inl rfl) h2).le (show 64≤100000 by omega);have b1:=ebig_rd (inf:=x) (g:=-1) h1;have b2:=ebig_rd (inf:=y) (g:=1) h2;unfold sabs
 split
 ·exact⟨⟨e1,e2⟩,b1,b2⟩
 ·split
  ·exact⟨⟨e2.neg,e1.neg⟩,ebig_neg b2,ebig_neg b1⟩
  ·exact⟨⟨EOk.zero (by omega),e1.neg.max e2⟩,ebig_zero,ebig_max (ebig_neg b1) b2⟩
def jsize (r:Tj):Tj:=if jsg r=-2∨jsg r=-1 then jminus r else if jsg r=3 then jmix r else r
theorem QFit.zero:QFit (false,0,1):=⟨isFr_zero,Nat.pow_pos W32_pos,Nat.one_lt_pow (by omega) (by decide)⟩
theorem QFit.max{s t:Tq}(hs:QFit s)(ht:QFit t):QFit (qmax s t):=by unfold qmax;split<;>assumption
theorem sv_pos{t:Tq}(h:0 < sgn t.1 t.2.1):0 < sv t.1 t.2.1:=by
 unfold sgn at h;unfold sv
 split at h
 ·exact absurd h (by decide)
 case isFalse hs=>
  rw[if_neg hs]
  split at h
  ·exact absurd h (by decide)
  ·omega
theorem sv_nonneg{t:Tq}(h:¬0≤sgn t.1 t.2.1):0≤sv (fneg t).1 (fneg t).2.1:=by
 rw[sv_fneg];unfold sgn at h;unfold sv
 split at h
 case isTrue hs=>rw[if_pos hs];omega
 ·split at h<;>exact absurd (by decide) h
theorem fcmp_zero_le{t:Tq}(h:0≤sv t.1 t.2.1):fcmp (false,0,1) t≤0:=by
 rw[fcmp_nonpos];show(0:Int)*_≤sv t.1 t.2.1*((1:Nat):Int);simp;exact h
theorem jsize_good{r:Tj}(h:JGood r):∃r',JGood r'∧japi (jsize r)=japi r':=by
 unfold jsize
 split
 ·exact⟨_,h.neg,rfl⟩
 ·split
  case isTrue h3=>
   rcases h with rfl | ⟨he,hl,hh,_⟩
   ·exact absurd h3 (by decide)
   ·unfold jmix;cases hxy:(r.2.2.1 || r.2.2.2.1)
    ·have hx:r.2.2.1=false∧r.2.2.2.1=false:=by simpa using hxy
     rcases hl with ⟨hq,_⟩ | ⟨_,hl⟩
     ·rw[hx.1] at hq;exact absurd hq (by decide)
     ·rcases hh with ⟨hq,_⟩ | ⟨_,hh⟩
      ·rw[hx.2] at hq;exact absurd hq (by decide)
      ·refine⟨((false,0,1),qmax (fneg r.1) r.2.1,false,false,false),.inr ⟨rfl,.inr ⟨rfl,QFit.zero⟩,.inr ⟨rfl,hl.neg.max hh⟩,fun _ _=>?_⟩,rfl⟩;unfold jsg at h3;rw[he] at h3;unfold sgo at h3;rw[hx.1,hx.2] at h3
       have hq:¬0≤sgn r.1.1 r.1.2.1∧¬sgn r.2.1.1 r.2.1.2.1≤0:=by
        by_cases ha:0≤sgn r.1.1 r.1.2.1<;>by_cases hb:sgn r.2.1.1 r.2.1.2.1≤0<;>simp [ha,hb] at h3 ⊢
        all_goals (try (split at h3<;>omega))
       show fcmp (false,0,1) (qmax (fneg r.1) r.2.1)≤0;refine fcmp_zero_le ?_;unfold qmax
       split
       ·have:=sv_pos (t:=r.2.1) (by omega);omega
       ·exact sv_nonneg hq.1
    ·exact⟨((false,0,1),(false,0,0),false,true,false),.inr ⟨rfl,.inr ⟨rfl,QFit.zero⟩,.inl ⟨rfl,rfl⟩,fun _ h=>absurd h (by decide)⟩,rfl⟩
  ·exact⟨r,h,rfl⟩
theorem iAbs_ret{W:World}{B:Nat}{a0 a1 a2 a3 a4 a5 a6 a7 ev:Value}{tm:Array Value}{R:Ending→World→Prop}(h2:tm[2]?.getD undef=.pointer (some ⟨B,0,none⟩))(h3:tm[3]?.getD undef=ev)(hV:Box W B #[a0,a1,a2,a3,a4,a5,a6,a7])(hR:R (.returned (.tuple #[.agg #[a0,a1,a2,a3,a4,a5,a6,a7],ev])) W):
  bodyPost Tryz.prog Tryz.f17 R .ret {tmps:=tm,defers:=[]} W:=by
 obtain⟨g0,g1,g2,g3,g4,g5,g6,g7,_⟩:=hV.cells8;exact bodyPost_ret (v:=.tuple #[.agg #[a0,a1,a2,a3,a4,a5,a6,a7],ev]) (by simp [results,Tryz.results17,go_sem,h2,h3,g0,g1,g2,g3,g4,g5,g6,g7]) rfl hR
set_option maxHeartbeats 2000000 in
set_option maxRecDepth 100000 in
theorem iAbs_any(s1 p1 k1 c1 q1 l1 d1 sz1 pz1 kz1 cz1 qz1 lz1 dz1 x1 y1)(a b:Tq)(w:World)(ha:NRep w (.agg #[.bool s1,.slice p1 k1 c1,.slice q1 l1 d1]) a)(hb:NRep w (.agg #[.bool sz1,.slice pz1 kz1 cz1,.slice qz1 lz1 dz1]) b)(ht:TabOk w):
  Calls Tryz.prog 17 #[.agg #[.bool s1,.slice p1 k1 c1,.slice q1 l1 d1,.bool sz1,.slice pz1 kz1 cz1,.slice qz1 lz1 dz1,.bool x1,.bool y1]] w fun e w'=>∃s5 p5 k5 c5 q5 l5 d5 sz5 pz5 kz5 cz5 qz5 lz5 dz5 x5 y5,e=.returned (.tuple #[.agg #[.bool s5,.slice p5 k5 c5,.slice q5 l5 d5,.bool sz5,.slice pz5 kz5 cz5,.slice qz5 lz5 dz5,.bool x5,.bool y5],.int .i64 (icode (a,b,x1,y1))])∧Hid (GRep w' (.agg #[.bool s5,.slice p5 k5 c5,.slice q5 l5 d5,.bool sz5,.slice pz5 kz5 cz5,.slice qz5 lz5 dz5,.bool x5,.bool y5]) (iop sabs (a,b,x1,y1)))∧Bw w w':=by
 obtain⟨c,hc⟩:∃r,r=icode (a,b,x1,y1):=⟨_,rfl⟩;obtain⟨D,hD⟩:∃r,r=iop sabs (a,b,x1,y1):=⟨_,rfl⟩;rw[←hc,←hD]
 have HC:Hid (∀W,Bw w W→Calls Tryz.prog 36 #[.agg #[.bool s1,.slice p1 k1 c1,.slice q1 l1 d1,.bool sz1,.slice pz1 kz1 cz1,.slice qz1 lz1 dz1,.bool x1,.bool y1],.bool true,.func (.func 43) #[] #[]] W (GT W c D)):=by
  refine hid fun W hW=>?_
  rw[hc,hD];refine one_val s1 p1 k1 c1 q1 l1 d1 sz1 pz1 kz1 cz1 qz1 lz1 dz1 x1 y1 _ #[] sabs a b W (ha.below hW) (hb.below hW) (ht.below hW) enter_sabs (fun h1 h2 h3=>?_) (fun h1 h2 _ W4 i3 s3 p3 k3 c3 q3 l3 d3 j3 sz3 pz3 kz3 cz3 qz3 lz3 dz3 e3 hW4 hS=>?_)
  ·exact⟨(sabs_fit (x:=x1) (y:=y1) h1 h2).1,(sabs_fit (x:=x1) (y:=y1) h1 h2).2,sabs_in h3⟩
  ·exact sabs_any i3 s3 p3 k3 c3 q3 l3 d3 j3 sz3 pz3 kz3 cz3 qz3 lz3 dz3 e3 _ 64 W4 hS ⟨rdE_ok (inf:=x1) (g:=-1) (.inr rfl) h1,rdE_ok (inf:=y1) (g:=1) (.inl rfl) h2⟩ (by omega)
 clear ha hb ht hc hD;go_enter Tryz.func17,Tryz.ntmps17;go_wp2_with fail;generalize hA:World.alloc _ _=W0;have HV:=hid (pre2_o hA nd8 nd8);clear hA;refine(HC.out _ HV.out.2.2).mono ?_;rintro e w1 ⟨s5,p5,k5,c5,q5,l5,d5,sz5,pz5,kz5,cz5,qz5,lz5,dz5,x5,y5,rfl,hG,hB1⟩;have HE:=hid (And.intro (HV.out.2.1.below hB1) (HV.out.2.2.trans (hB1.mono HV.out.2.2.size)));clear hB1;obtain⟨g0,g1,g2,g3,g4,g5,g6,g7,f0,f1,f2,f3,f4,f5,f6,f7⟩:=HE.out.1.cells8;go_wp2_with fail;exact iAbs_ret rfl rfl (HE.out.1.stores [.bool s5,.slice p5 k5 c5,.slice q5 l5 d5,.bool sz5,.slice pz5 kz5 cz5,.slice qz5 lz5 dz5,.bool x5,.bool y5] rfl nd8) ⟨s5,p5,k5,c5,q5,l5,d5,sz5,pz5,kz5,cz5,qz5,lz5,dz5,x5,y5,rfl,hid (GRep.stores (k:=0) (l:=[.bool s5,.slice p5 k5 c5,.slice q5 l5 d5,.bool sz5,.slice pz5 kz5 cz5,.slice qz5 lz5 dz5,.bool x5,.bool y5]) hG.out HE.out.1 nd8),Below.stores (k:=0) (l:=[.bool s5,.slice p5 k5 c5,.slice q5 l5 d5,.bool sz5,.slice pz5 kz5 cz5,.slice qz5 lz5 dz5,.bool x5,.bool y5]) HE.out.2 (by omega)⟩
def jabs (a:Ti):Ti:=if ilarge a then gzero else japi (jsize (jof a))
theorem jsize_low{lo hi:Tq}{x y:Bool}(h:(!x && decide (0≤sgn lo.1 lo.2.1))=true):jsize (lo,hi,x,y,false)=(lo,hi,x,y,false):=by
 have e:jsg (lo,hi,x,y,false)=0∨jsg (lo,hi,x,y,false)=2∨jsg (lo,hi,x,y,false)=1:=by
  show sgo x y (sgn lo.1 lo.2.1) (sgn hi.1 hi.2.1)=0∨sgo x y (sgn lo.1 lo.2.1) (sgn hi.1 hi.2.1)=2∨sgo x y (sgn lo.1 lo.2.1) (sgn hi.1 hi.2.1)=1;unfold sgo;rw[h];simp only[if_true]
  repeat' split
  all_goals simp
 unfold jsize
 rcases e with e | e | e<;>rw[e]<;>rfl
theorem jsize_high{lo hi:Tq}{x y:Bool}(h:(!x && decide (0≤sgn lo.1 lo.2.1))=false)(h':(!y && decide (sgn hi.1 hi.2.1≤0))=true):jsize (lo,hi,x,y,false)=jminus (lo,hi,x,y,false):=by
 have e:jsg (lo,hi,x,y,false)=-2∨jsg (lo,hi,x,y,false)=-1:=by
  show sgo x y (sgn lo.1 lo.2.1) (sgn hi.1 hi.2.1)=-2∨sgo x y (sgn lo.1 lo.2.1) (sgn hi.1 hi.2.1)=-1;unfold sgo;rw[h,h'];simp only[if_true,Bool.false_eq_true,if_false]
  split<;>simp
 unfold jsize;rw[if_pos e]
theorem jsize_mixed{lo hi:Tq}{x y:Bool}(h:(!x && decide (0≤sgn lo.1 lo.2.1))=false)(h':(!y && decide (sgn hi.1 hi.2.1≤0))=false):jsize (lo,hi,x,y,false)=jmix (lo,hi,x,y,false):=by
 have e:jsg (lo,hi,x,y,false)=3:=by
  show sgo x y (sgn lo.1 lo.2.1) (sgn hi.1 hi.2.1)=3;unfold sgo;rw[h,h'];rfl
 unfold jsize;rw[e];rfl
theorem ecmp_fin(a b:Tq):ecmp (0,a) (0,b)=fcmp a b:=by unfold ecmp;simp
theorem emax_fin(a b:Tq):emax (0,a) (0,b)=(0,qmax a b):=by
 unfold emax qmax;rw[ecmp_fin]
 split<;>rfl
theorem abs_same{a b:Tq}{x y:Bool}(h1:large a.2.1 a.2.2=false)(h2:large b.2.1 b.2.2=false):
  (if (srd (a,b,x,y)).2.2 then giv (srd (a,b,x,y)) else giv (sabs (srd (a,b,x,y))))=japi (jsize (jof (a,b,x,y))):=by
 have hneg:=neg_same (x:=x) (y:=y) h1 h2;have hid':=giv_srd (x:=x) (y:=y) h1 h2;cases he:(srd (a,b,x,y)).2.2
 ·rw[he] at hneg;show giv (sabs (srd (a,b,x,y)))=_;have hneg':giv (sneg (srd (a,b,x,y)))=japi (jminus (jof (a,b,x,y))):=hneg;have hJ:=jof_in he;rw[hJ] at hid' hneg' ⊢;clear hneg;have e1:(srd (a,b,x,y)).1=rdE x (-1) a:=rfl;have e2:(srd (a,b,x,y)).2.1=rdE y 1 b:=rfl
  have el:(0≤esgn (rdE x (-1) a))↔(!x && decide (0≤sgn (if x then (false,0,0) else fr a).1 (if x then (false,0,0) else fr a).2.1))=true:=by
   cases x
   ·show 0≤sgn (fr a).1 (fr a).2.1↔(!false && decide (0≤sgn (fr a).1 (fr a).2.1))=true;simp
   ·show(0:Int)≤-1↔_;simp
  have eh:(esgn (rdE y 1 b)≤0)↔(!y && decide (sgn (if y then (false,0,0) else fr b).1 (if y then (false,0,0) else fr b).2.1≤0))=true:=by
   cases y
   ·show sgn (fr b).1 (fr b).2.1≤0↔(!false && decide (sgn (fr b).1 (fr b).2.1≤0))=true;simp
   ·show(1:Int)≤0↔_;simp
  unfold sabs;rw[e1,e2]
  by_cases hl:0≤esgn (rdE x (-1) a)
  ·rw[if_pos hl,hid',jsize_low (el.1 hl)]
  ·have hl':=Bool.eq_false_iff.2 (fun h=>hl (el.2 h));rw[if_neg hl]
   by_cases hh:esgn (rdE y 1 b)≤0
   ·rw[if_pos hh,hneg',jsize_high hl' (eh.1 hh)]
   ·have hh':=Bool.eq_false_iff.2 (fun h=>hh (eh.2 h));rw[if_neg hh,jsize_mixed hl' hh']
    have ez:outF (false,0,1)=(false,0,0):=by decide
    cases x<;>cases y
    ·show giv ((0,false,0,1),emax (0,fneg (fr a)) (0,fr b),false)=(jrat (false,0,0),jrat (qmax (fneg (fr a)) (fr b)),false,false);rw[emax_fin,((QFit.of h1).neg.max (QFit.of h2)).jrat,jrat_zero];show(outF (false,0,1),outF (qmax (fneg (fr a)) (fr b)),false,false)=_;rw[ez]
    all_goals
     show _=(jrat (false,0,0),jrat (false,0,0),false,true)
     rw[jrat_zero]
     show(outF (false,0,1),_,_,_)=_
     rw[ez]
     rfl
 ·show giv (srd (a,b,x,y))=_;rw[hid',jof_out he];rfl
theorem abs_eq(a b:Tq)(x y:Bool):jabs (a,b,x,y)=iop sabs (a,b,x,y):=by
 unfold jabs iop;cases h:ilarge (a,b,x,y)
 ·have h':(large a.2.1 a.2.2 || large b.2.1 b.2.2)=false:=h;rw[Bool.or_eq_false_iff] at h';exact(abs_same h'.1 h'.2).symm
 ·rfl
theorem abs_ok(a b:Tq)(x y:Bool)(h:icode (a,b,x,y)=0):∃r,JGood r∧iop sabs (a,b,x,y)=japi r:=by
 unfold icode at h;cases hl:ilarge (a,b,x,y)
 ·have h':(large a.2.1 a.2.2 || large b.2.1 b.2.2)=false:=hl;rw[Bool.or_eq_false_iff] at h';obtain⟨r,hr,he⟩:=jsize_good (JGood.of (x:=x) (y:=y) h'.1 h'.2);refine⟨r,hr,?_⟩;rw[←abs_eq,←he];unfold jabs;rw[hl];rfl
 ·rw[hl] at h;exact absurd h (by decide)
theorem sgn_three(s:Bool)(n:Nat):sgn s n=-1∨sgn s n=0∨sgn s n=1:=by
 unfold sgn
 repeat' split
 all_goals simp
theorem sgn_sv{s:Bool}{n:Nat}(h:n=0→s=false):(sgn s n=-1↔sv s n < 0)∧(sgn s n=0↔sv s n=0)∧(sgn s n=1↔0 < sv s n):=by
 unfold sgn sv;cases s
 ·by_cases h0:n=0
  ·subst h0;simp
  ·have hp:(0:Int) < n:=by omega
   rw[if_neg h0];simp only[Bool.false_eq_true,if_false]
   refine⟨⟨fun h=>?_,fun h=>?_⟩,⟨fun h=>?_,fun h=>?_⟩,⟨fun h=>?_,fun h=>?_⟩⟩<;>first | exact trivial | omega
 ·have h0:n≠0:=fun e=>absurd (h e) (by decide)
  have hp:(0:Int) < n:=by omega
  simp only[if_true]
  refine⟨⟨fun h=>?_,fun h=>?_⟩,⟨fun h=>?_,fun h=>?_⟩,⟨fun h=>?_,fun h=>?_⟩⟩<;>first | exact trivial | omega
theorem sgn_mono{a b:Tq}(ha:IsFr a)(hb:IsFr b)(h:fcmp a b≤0):sgn a.1 a.2.1≤sgn b.1 b.2.1:=by
 rw[fcmp_nonpos] at h;have h1:=sgn_sv ha.zs;have h2:=sgn_sv hb.zs
 have hp:(0:Int) < a.2.2:=by have:=ha.pos;omega
 have hq:(0:Int) < b.2.2:=by have:=hb.pos;omega
 have t1:=sgn_three a.1 a.2.1;have t2:=sgn_three b.1 b.2.1;generalize sgn a.1 a.2.1=A at *;generalize sgn b.1 b.2.1=B at *;generalize sv a.1 a.2.1=x at *;generalize sv b.1 b.2.1=y at *;generalize(a.2.2:Int)=p at *;generalize(b.2.2:Int)=q at *
 have k1:y < 0→x < 0:=by
  intro hy;have e1:=Int.mul_neg_of_neg_of_pos hy hp
  by_cases hx:x < 0
  ·exact hx
  ·have e2:=Int.mul_nonneg (a:=x) (b:=q) (by omega) (by omega);omega
 have k2:y≤0→x≤0:=by
  intro hy;have e1:=Int.mul_le_mul_of_nonneg_right hy (Int.le_of_lt hp);rw[Int.zero_mul] at e1
  by_cases hx:x≤0
  ·exact hx
  ·have e2:=Int.mul_pos (a:=x) (b:=q) (by omega) hq;omega
 omega
end Go.Proofs.YteblinkehldghaaGreatDoor
