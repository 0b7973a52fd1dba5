/- Powers of fractions: what they are, and that they are in lowest terms. -/
import Derived.Test.YteblinkehldghaaGreatDoorGrd
import Derived.Test.YteblinkehldghaaGreatDoorLawD
import Derived.Test.YteblinkehldghaaGreatDoorNumX
import Derived.Test.YteblinkehldghaaGreatDoorRndJ
import Derived.Test.YteblinkehldghaaGreatDoorHasU
import Derived.Test.YteblinkehldghaaGreatDoorAbsI
import Derived.Test.YteblinkehldghaaGreatDoorNegI
namespace Go.Proofs.YteblinkehldghaaGreatDoor
open Go.RowKit Dg
open And renaming intro→Ai
def frinv (t:Tq):Tq:=frac t.1 t.2.2 t.2.1
theorem fmul_one_inv(t:Tq):fmul (false,1,1) (t.1,t.2.2,t.2.1)=frinv t:=by
 unfold fmul frinv;simp
open Go.RowKit Dg Rt
theorem isFr_lowest{t:Tq}(h:IsFr t):Nat.gcd t.2.1 t.2.2=1∧0 < t.2.2∧(t.2.1=0→t.1=false):=by
 obtain⟨s,n,d,hd,rfl⟩:=h;exact⟨frac_gcd hd,frac_pos hd,frac_zero_sign hd⟩
theorem sv_abs(s:Bool)(n:Nat):(sv s n).natAbs=n:=by
 unfold sv;cases s<;>simp
theorem fcmp_zero_iff{x y:Tq}(hx:IsFr x)(hy:IsFr y):fcmp x y=0↔x=y:=by
 obtain⟨gx,px,zx⟩:=isFr_lowest hx;obtain⟨gy,py,zy⟩:=isFr_lowest hy;constructor
 ·intro h
  have he:sv x.1 x.2.1*(y.2.2:Int)=sv y.1 y.2.1*(x.2.2:Int):=by
   unfold fcmp cmpI at h
   split at h
   ·exact absurd h (by decide)
   ·split at h
    ·exact absurd h (by decide)
    ·omega
  have hn:x.2.1*y.2.2=y.2.1*x.2.2:=by
   have:=congrArg Int.natAbs he
   rwa [Int.natAbs_mul,Int.natAbs_mul,sv_abs,sv_abs,Int.natAbs_natCast,Int.natAbs_natCast] at this
  have d1:x.2.2 ∣ y.2.2:=(Nat.Coprime.symm gx).dvd_of_dvd_mul_left ⟨y.2.1,by rw[hn,Nat.mul_comm]⟩;have d2:y.2.2 ∣ x.2.2:=(Nat.Coprime.symm gy).dvd_of_dvd_mul_left ⟨x.2.1,by rw[←hn,Nat.mul_comm]⟩;have hd:x.2.2=y.2.2:=Nat.dvd_antisymm d1 d2;rw[hd] at hn he;have hnn:x.2.1=y.2.1:=Nat.eq_of_mul_eq_mul_right py hn
  have hs:x.1=y.1:=by
   have he2:sv x.1 x.2.1=sv y.1 y.2.1:=Int.eq_of_mul_eq_mul_right (by omega) he;rw[hnn] at he2
   rcases Nat.eq_zero_or_pos y.2.1 with h0 | h0
   ·rw[zx (hnn.trans h0),zy h0]
   ·unfold sv at he2
    cases h1:x.1<;>cases h2:y.1<;>simp [h1,h2] at he2 ⊢<;>omega
  obtain⟨a,b,c⟩:=x;obtain⟨a',b',c'⟩:=y;simp only at hs hnn hd;rw[hs,hnn,hd]
 ·rintro rfl;unfold fcmp cmpI;rw[if_neg (Int.lt_irrefl _),if_neg (Int.lt_irrefl _)]
theorem fr_unique{a b:Tq}{p q:Int}(ha:IsFr a)(hb:IsFr b)(h1:FQ a p q)(h2:FQ b p q)(hq:0 < q):a=b:=by
 have h:=fcmp_Q h1 h2 hq hq;rw[show cmpI (p*q) (p*q)=0 by unfold cmpI;rw[if_neg (Int.lt_irrefl _),if_neg (Int.lt_irrefl _)]] at h;exact(fcmp_zero_iff ha hb).1 h
theorem FRes.any{w:World}{e:Ending}{c}{t:Tq}(h:FRes w e c t):∃sg pa ka ca pb kb cb,e=.returned (.tuple #[.agg #[.bool sg,.slice pa ka ca,.slice pb kb cb],.int .i64 c])∧Hid (c=0→FNorm w (.agg #[.bool sg,.slice pa ka ca,.slice pb kb cb]) t):=by
 rcases h with ⟨h0,rfl⟩ | ⟨rfl,sg,pa,ka,ca,pb,kb,cb,rfl,hF⟩
 ·exact⟨false,none,0,0,none,0,0,rfl,hid fun h=>absurd h h0⟩
 ·exact⟨sg,pa,ka,ca,pb,kb,cb,rfl,hid fun _=>hF.out⟩
def BoxG (w:World) (F:Nat) (b:Bool):Prop:=∃t,w.heap[F]?=some (.cells #[.bool b] t (0,0))
theorem BoxG.lt{w:World}{F:Nat}{b:Bool}(h:BoxG w F b):F < w.heap.size:=by
 obtain⟨t,h0⟩:=h;exact(Array.getElem?_eq_some_iff.1 h0).1
theorem BoxG.keep{w w':World}{F N:Nat}{b:Bool}(h:BoxG w F b)(hN:F < N)(hb:Below N w w'):BoxG w' F b:=by
 obtain⟨t,h0⟩:=h;exact⟨t,by rw[hb.block _ hN];exact h0⟩
theorem BoxG.below{w w':World}{F:Nat}{b:Bool}(h:BoxG w F b)(hb:Bw w w'):BoxG w' F b:=h.keep h.lt hb
theorem BoxG.cell{w:World}{F:Nat}{b}(h:BoxG w F b):w.cell? ⟨F,0,none⟩=some (.bool b)∧w.frozen? ⟨F,0,none⟩=false:=by
 obtain⟨t,h0⟩:=h;simp [World.cell?,World.frozen?,h0]
theorem BoxG.set{w:World}{F:Nat}{b:Bool}(h:BoxG w F b)(c):BoxG (w.setCell ⟨F,0,none⟩ (.bool c)) F c:=by
 obtain⟨t,h0⟩:=h;exact⟨t,heap_setCell_same w F 0 _ t _ h0⟩
theorem BoxG.other{w:World}{F B:Nat}{b:Bool}(h:BoxG w F b)(hne:F≠B)(k:Nat)(u:Value):BoxG (w.setCell ⟨B,k,none⟩ u) F b:=by
 obtain⟨t,h0⟩:=h;exact⟨t,by rw[Below.heap_setCell _ _ _ _ hne];exact h0⟩
def UponF (F:Nat) (W w':World):Prop:=Below F W w'∧∀i,F < i→i < W.heap.size→w'.heap[i]?=W.heap[i]?
theorem UponF.of_below{F:Nat}{W w':World}(h:Bw W w')(hF:F < W.heap.size):UponF F W w':=⟨h.mono (Nat.le_of_lt hF),fun i _ hi=>h.block i hi⟩
theorem UponF.below{F:Nat}{W w1 w2:World}(h:UponF F W w1)(hF:F < W.heap.size)(hb:Bw w1 w2):UponF F W w2:=
 ⟨h.1.trans (hb.mono (Nat.le_trans (Nat.le_of_lt hF) h.1.size)),fun i h1 h2=>(hb.block i (Nat.lt_of_lt_of_le h2 h.1.size)).trans (h.2 i h1 h2)⟩
theorem UponF.drew{F:Nat}{W w':World}(h:UponF F W w'):UponF F W w'.drew:=⟨h.1.drew,h.2⟩
set_option maxHeartbeats 2000000
set_option maxRecDepth 100000
theorem einv_ret{W:World}{B:Nat}{a0 a1 a2 a3:Value}{tm:Array Value}{R:Ending→World→Prop}(h2:tm[2]?.getD undef=.pointer (some ⟨B,0,none⟩))(hV:Box W B #[a0,a1,a2,a3])(hR:R (.returned (.agg #[a0,a1,a2,a3])) W):
  bodyPost Tryz.prog Tryz.f101 R .ret {tmps:=tm,defers:=[]} W:=by
 obtain⟨g0,g1,g2,g3,_⟩:=hV.cells4;exact bodyPost_ret (v:=.agg #[a0,a1,a2,a3]) (by simp [results,Tryz.results101,go_sem,h2,g0,g1,g2,g3]) rfl hR
theorem sinv_ret{W:World}{B:Nat}{a0 a1 a2 a3 a4 a5 a6 a7 a8:Value}{tm:Array Value}{R:Ending→World→Prop}(h2:tm[2]?.getD undef=.pointer (some ⟨B,0,none⟩))(hV:Box W B #[a0,a1,a2,a3,a4,a5,a6,a7,a8])(hR:R (.returned (.agg #[a0,a1,a2,a3,a4,a5,a6,a7,a8])) W):
  bodyPost Tryz.prog Tryz.f64 R .ret {tmps:=tm,defers:=[]} W:=by
 obtain⟨g0,g1,g2,g3,g4,g5,g6,g7,g8,_⟩:=hV.cells9;exact bodyPost_ret (v:=.agg #[a0,a1,a2,a3,a4,a5,a6,a7,a8]) (by simp [results,Tryz.results64,go_sem,h2,g0,g1,g2,g3,g4,g5,g6,g7,g8]) rfl hR
def einv (x:Int×Tq):Int×Tq:=if x.1=0 then (0,frinv x.2) else (0,false,0,1)
theorem einv_inf(i1 s1 p1 k1 c1 q1 l1 d1)(w:World)(hi:(i1 != 0)=true):
  Calls Tryz.prog 101 #[.agg #[.int .i64 i1,.bool s1,.slice p1 k1 c1,.slice q1 l1 d1]] w fun e w'=>∃i2 s2 p2 k2 c2 q2 l2 d2,e=.returned (.agg #[.int .i64 i2,.bool s2,.slice p2 k2 c2,.slice q2 l2 d2])∧Hid (ERep w' (.agg #[.int .i64 i2,.bool s2,.slice p2 k2 c2,.slice q2 l2 d2]) (0,false,0,1))∧Bw w w':=by
 go_enter Tryz.func101,Tryz.ntmps101;go_wp2_with fail;generalize hA:World.alloc _ _=W0;have HV:=hid (pre2_o hA nd4 nd4);clear hA;refine(infinite_any i1 s1 p1 k1 c1 q1 l1 d1 W0).mono ?_;rintro e w1 ⟨rfl,hB1⟩;rw[hi];have HE:=hid (Ai (HV.out.2.1.below hB1) (HV.out.2.2.trans (hB1.mono HV.out.2.2.size)));clear hB1;go_wp2_with fail;refine(whole_zero _).mono ?_;rintro e w2 ⟨i2,s2,p2,k2,c2,q2,l2,d2,rfl,hF,hB2⟩;have HE3:=hid (Ai (HE.out.1.below hB2) (Ai hF.out (HE.out.2.trans (hB2.mono HE.out.2.size))));clear hB2 hF;obtain⟨g0,g1,g2,g3,f0,f1,f2,f3⟩:=HE3.out.1.cells4;go_wp2_with fail;exact einv_ret rfl (HE3.out.1.stores [.int .i64 i2,.bool s2,.slice p2 k2 c2,.slice q2 l2 d2] rfl nd4) ⟨i2,s2,p2,k2,c2,q2,l2,d2,rfl,hid (ERep.stores (k:=0) (l:=[.int .i64 i2,.bool s2,.slice p2 k2 c2,.slice q2 l2 d2]) HE3.out.2.1 HE3.out.1 nd4),Below.stores (k:=0) (l:=[.int .i64 i2,.bool s2,.slice p2 k2 c2,.slice q2 l2 d2]) HE3.out.2.2 (by omega)⟩
theorem einv_fin(s1 p1 k1 c1 q1 l1 d1)(t r:Tq)(w:World)(h:FNorm w (.agg #[.bool s1,.slice p1 k1 c1,.slice q1 l1 d1]) t)
  (HO:Hid (∀W,Calls Tryz.prog 113 #[.int .i64 1] W fun e w'=>∃s2 p2 k2 c2 q2 l2 d2,e=.returned (.agg #[.bool s2,.slice p2 k2 c2,.slice q2 l2 d2])∧Hid (FNorm w' (.agg #[.bool s2,.slice p2 k2 c2,.slice q2 l2 d2]) (false,1,1))∧Bw W w'))
  (HD:Hid (∀W s2 p2 k2 c2 q2 l2 d2,Bw w W→FNorm W (.agg #[.bool s2,.slice p2 k2 c2,.slice q2 l2 d2]) (false,1,1)→FNorm W (.agg #[.bool s1,.slice p1 k1 c1,.slice q1 l1 d1]) t→Calls Tryz.prog 138 #[.agg #[.bool s2,.slice p2 k2 c2,.slice q2 l2 d2],.agg #[.bool s1,.slice p1 k1 c1,.slice q1 l1 d1]] W fun e w'=>∃s3 p3 k3 c3 q3 l3 d3,e=.returned (.tuple #[.agg #[.bool s3,.slice p3 k3 c3,.slice q3 l3 d3],.int .i64 0])∧Hid (FNorm w' (.agg #[.bool s3,.slice p3 k3 c3,.slice q3 l3 d3]) r)∧Bw W w')):
  Calls Tryz.prog 101 #[.agg #[.int .i64 0,.bool s1,.slice p1 k1 c1,.slice q1 l1 d1]] w fun e w'=>∃i2 s2 p2 k2 c2 q2 l2 d2,e=.returned (.agg #[.int .i64 i2,.bool s2,.slice p2 k2 c2,.slice q2 l2 d2])∧Hid (ERep w' (.agg #[.int .i64 i2,.bool s2,.slice p2 k2 c2,.slice q2 l2 d2]) (0,r))∧Bw w w':=by
 have HT:=hid h;clear h;go_enter Tryz.func101,Tryz.ntmps101;go_wp2_with fail;generalize hA:World.alloc _ _=W0;have HV:=hid (pre2_o hA nd4 nd4);clear hA;refine(infinite_any 0 s1 p1 k1 c1 q1 l1 d1 W0).mono ?_;rintro e w1 ⟨rfl,hB1⟩;rw[show((0:Int) != 0)=false from rfl];have HE:=hid (Ai (HV.out.1.below hB1) (Ai (HV.out.2.1.below hB1) (HV.out.2.2.trans (hB1.mono HV.out.2.2.size))));clear hB1;go_upto_region 3 with fail;have HQ:=hid (QQ.i1 (cs:=[.int .i64 0,.bool s1,.slice p1 k1 c1,.slice q1 l1 d1]) HE.out.1 HE.out.2.2);have HS:=hid (fun (w':World) (hb:QQ w [(w.heap.size,[.int .i64 0,.bool s1,.slice p1 k1 c1,.slice q1 l1 d1])] w')=>hb.s_4);have HN:Hid (Apart [(w.heap.size,[.int .i64 0,.bool s1,.slice p1 k1 c1,.slice q1 l1 d1])] (w.heap.size+1)):=hid (ne1 (by omega));have HI:Hid (w.heap.size≤w.heap.size+1):=hid (by omega)
 go_region_held3 (fun w'=>w'.cell? ⟨w.heap.size,0,none⟩=some (.int .i64 0)∧w'.cell? ⟨w.heap.size,1,none⟩=some (.bool s1)∧w'.cell? ⟨w.heap.size,2,none⟩=some (.slice p1 k1 c1)∧w'.cell? ⟨w.heap.size,3,none⟩=some (.slice q1 l1 d1)∧Hid (QQ w [(w.heap.size,[.int .i64 0,.bool s1,.slice p1 k1 c1,.slice q1 l1 d1])] w'))
  (first | (refine HS.out _ ?_;first | (with_reducible exact HQ.out.drew) | (with_reducible assumption) | (with_reducible refine QQ.st4 ?_ HN.out HI.out;assumption)))
  (first
   | (go_at_call 113;refine(HO.out _).mono ?_;rintro e wa ⟨s2,p2,k2,c2,q2,l2,d2,rfl,hE1,hB1⟩;have hQ1:=HQ.out.drew.call hB1;have hV1:=(HE.out.2.1.drew).below hB1)
   | (go_at_call 138;refine(HD.out _ s2 p2 k2 c2 q2 l2 d2 hQ1.bel hE1.out (HT.out.below hQ1.bel)).mono ?_;rintro e wb ⟨s3,p3,k3,c3,q3,l3,d3,rfl,hF,hB2⟩;have hQ2:=hQ1.call hB2;have hV2:=hV1.below hB2)
   | (go_at_call 116;refine(mustF_ok s3 p3 k3 c3 q3 l3 d3 _).mono ?_;rintro e wc ⟨rfl,hB3⟩;have hQ3:=hQ2.call hB3;have hV3:=hV2.below hB3)
   | (go_at_call 90;refine(finite_any s3 p3 k3 c3 q3 l3 d3 _).mono ?_;rintro e wd ⟨rfl,hB4⟩;have hQ4:=hQ3.call hB4;have hV4:=hV3.below hB4;obtain⟨g0,g1,g2,g3,f0,f1,f2,f3⟩:=hV4.cells4))
 rename_i hHeld
 clear hHeld;have HE3:=hid (Ai hV4 (Ai ((hF.out.below hB3).below hB4) hQ4.bel));clear hQ1 hQ2 hQ3 hQ4 hV1 hV2 hV3 hV4 hB1 hB2 hB3 hB4 hE1 hF;go_wp2_with fail;exact einv_ret rfl (HE3.out.1.stores [.int .i64 0,.bool s3,.slice p3 k3 c3,.slice q3 l3 d3] rfl nd4) ⟨0,s3,p3,k3,c3,q3,l3,d3,rfl,hid (ERep.mk rfl (FNorm.stores (k:=0) (l:=[.int .i64 0,.bool s3,.slice p3 k3 c3,.slice q3 l3 d3]) HE3.out.2.1 HE3.out.1 nd4)),Below.stores (k:=0) (l:=[.int .i64 0,.bool s3,.slice p3 k3 c3,.slice q3 l3 d3]) HE3.out.2.2 (by omega)⟩
theorem one_W1000:1 < W32 ^ 1000:=by
 generalize hA:1000=A at *;exact Nat.one_lt_pow (by omega) (by decide)
theorem einv_any(i1 s1 p1 k1 c1 q1 l1 d1)(x:Int×Tq)(w:World)(h:ERep w (.agg #[.int .i64 i1,.bool s1,.slice p1 k1 c1,.slice q1 l1 d1]) x)(hx:EOk 1000 x)(hz:x.1=0→x.2.2.1≠0)(ht:TabOk w):
  Calls Tryz.prog 101 #[.agg #[.int .i64 i1,.bool s1,.slice p1 k1 c1,.slice q1 l1 d1]] w fun e w'=>∃i2 s2 p2 k2 c2 q2 l2 d2,e=.returned (.agg #[.int .i64 i2,.bool s2,.slice p2 k2 c2,.slice q2 l2 d2])∧Hid (ERep w' (.agg #[.int .i64 i2,.bool s2,.slice p2 k2 c2,.slice q2 l2 d2]) (einv x))∧Bw w w':=by
 obtain⟨hi,hF⟩:=h.frac;unfold einv
 by_cases h0:x.1=0
 ·rw[if_pos h0];rw[h0] at hi;subst hi;have hfr:=hx.fin h0;refine einv_fin s1 p1 k1 c1 q1 l1 d1 x.2 (frinv x.2) w hF (hid fun W=>fopen (t:=(false,1,1)) (FracFromInt_any 1 W (by omega) (by omega))) (hid fun W s2 p2 k2 c2 q2 l2 d2 hW h1 h2=>?_);refine(FracDiv_any _ _ false 1 1 x.2.1 x.2.2.1 x.2.2.2 W h1 h2 (lt_1m4 (one_W1000)) (lt_1m4 (one_W1000)) (lt_1m4 hx.bn) (lt_1m4 hx.bd) (by decide) hfr.zs (ht.below hW)).mono ?_;rintro e w' ⟨hB,hR⟩;rw[if_neg (hz h0),fmul_one_inv] at hR
  rcases hR with ⟨hc,_⟩ | ⟨_,s3,p3,k3,c3,q3,l3,d3,rfl,hF3⟩
  ·exact absurd rfl hc
  ·exact⟨s3,p3,k3,c3,q3,l3,d3,rfl,hF3,hB⟩
 ·rw[if_neg h0];exact einv_inf i1 s1 p1 k1 c1 q1 l1 d1 w (by rw[hi];simpa using h0)
theorem szero_lo(i1 s1 p1 k1 c1 q1 l1 d1 j1 sz1 pz1 kz1 cz1 qz1 lz1 dz1 e1 g)(w:World)(HG:Hid (∀W,Bw w W→Calls Tryz.prog 51 #[.agg #[.int .i64 i1,.bool s1,.slice p1 k1 c1,.slice q1 l1 d1]] W fun e w'=>e=.returned (.int .i64 g)∧Bw W w'))(hg:decide (g≤0)=false):
  Calls Tryz.prog 100 #[.agg #[.int .i64 i1,.bool s1,.slice p1 k1 c1,.slice q1 l1 d1,.int .i64 j1,.bool sz1,.slice pz1 kz1 cz1,.slice qz1 lz1 dz1,.bool e1]] w fun e w'=>e=.returned (.bool false)∧Bw w w':=by
 go_enter Tryz.func100,Tryz.ntmps100;go_upto_region 1 with fail;generalize hA:World.alloc _ _=W0;have HV:=hid (pre1_o hA nd9);clear hA;obtain⟨m0,m1,m2,m3,m4,m5,m6,m7,m8,_⟩:=HV.out.1.cells9;go_wp2_with fail;refine(HG.out _ HV.out.2).mono ?_;rintro e w1 ⟨rfl,hB1⟩;replace HV:=hid (Ai (HV.out.1.below hB1) (HV.out.2.trans (hB1.mono HV.out.2.size)));clear hB1 m0 m1 m2 m3 m4 m5 m6 m7 m8;go_wp2_with fail
 go_ret
 exact⟨rfl,HV.out.2⟩
theorem szero_hi(i1 s1 p1 k1 c1 q1 l1 d1 j1 sz1 pz1 kz1 cz1 qz1 lz1 dz1 e1 g g2)(w:World)(HG:Hid (∀W,Bw w W→Calls Tryz.prog 51 #[.agg #[.int .i64 i1,.bool s1,.slice p1 k1 c1,.slice q1 l1 d1]] W fun e w'=>e=.returned (.int .i64 g)∧Bw W w'))(HG2:Hid (∀W,Bw w W→Calls Tryz.prog 51 #[.agg #[.int .i64 j1,.bool sz1,.slice pz1 kz1 cz1,.slice qz1 lz1 dz1]] W fun e w'=>e=.returned (.int .i64 g2)∧Bw W w'))(hg:decide (g≤0)=true):
  Calls Tryz.prog 100 #[.agg #[.int .i64 i1,.bool s1,.slice p1 k1 c1,.slice q1 l1 d1,.int .i64 j1,.bool sz1,.slice pz1 kz1 cz1,.slice qz1 lz1 dz1,.bool e1]] w fun e w'=>e=.returned (.bool (decide (0≤g2)))∧Bw w w':=by
 obtain⟨r,hr⟩:∃r,r=decide (0≤g2):=⟨_,rfl⟩;rw[←hr];have hr2:=hr.symm;clear hr;go_enter Tryz.func100,Tryz.ntmps100;go_upto_region 1 with fail;generalize hA:World.alloc _ _=W0;have HV:=hid (pre1_o hA nd9);clear hA;obtain⟨m0,m1,m2,m3,m4,m5,m6,m7,m8,_⟩:=HV.out.1.cells9;go_wp2_with fail;refine(HG.out _ HV.out.2).mono ?_;rintro e w1 ⟨rfl,hB1⟩;replace HV:=hid (Ai (HV.out.1.below hB1) (HV.out.2.trans (hB1.mono HV.out.2.size)));clear hB1 m0 m1 m2 m3 m4 m5 m6 m7 m8;obtain⟨m0,m1,m2,m3,m4,m5,m6,m7,m8,_⟩:=HV.out.1.cells9;go_wp2_with fail;refine(HG2.out _ HV.out.2).mono ?_;rintro e w2 ⟨rfl,hB1⟩;replace HV:=hid (Ai (HV.out.1.below hB1) (HV.out.2.trans (hB1.mono HV.out.2.size)));clear hB1 m0 m1 m2 m3 m4 m5 m6 m7 m8;go_wp2_with fail
 go_ret
 exact⟨rfl,HV.out.2⟩
def szero (x:Ts):Bool:=decide (esgn x.1≤0) && decide (0≤esgn x.2.1)
theorem szero_any(i1 s1 p1 k1 c1 q1 l1 d1 j1 sz1 pz1 kz1 cz1 qz1 lz1 dz1 e1)(x:Ts)(w:World)(h:SRep w (.agg #[.int .i64 i1,.bool s1,.slice p1 k1 c1,.slice q1 l1 d1,.int .i64 j1,.bool sz1,.slice pz1 kz1 cz1,.slice qz1 lz1 dz1,.bool e1]) x):
  Calls Tryz.prog 100 #[.agg #[.int .i64 i1,.bool s1,.slice p1 k1 c1,.slice q1 l1 d1,.int .i64 j1,.bool sz1,.slice pz1 kz1 cz1,.slice qz1 lz1 dz1,.bool e1]] w fun e w'=>e=.returned (.bool (szero x))∧Bw w w':=by
 have h1:=h.ends;have HL:=hid (fun (W:World) (hW:Bw w W)=>esign_any i1 s1 p1 k1 c1 q1 l1 d1 x.1 W (h1.1.below hW));have HH:=hid (fun (W:World) (hW:Bw w W)=>esign_any j1 sz1 pz1 kz1 cz1 qz1 lz1 dz1 x.2.1 W (h1.2.1.below hW));unfold szero;cases hg:decide (esgn x.1≤0)
 ·exact szero_lo i1 s1 p1 k1 c1 q1 l1 d1 j1 sz1 pz1 kz1 cz1 qz1 lz1 dz1 e1 _ w HL hg
 ·exact szero_hi i1 s1 p1 k1 c1 q1 l1 d1 j1 sz1 pz1 kz1 cz1 qz1 lz1 dz1 e1 _ _ w HL HH hg
theorem sinv_ok(i1 s1 p1 k1 c1 q1 l1 d1 j1 sz1 pz1 kz1 cz1 qz1 lz1 dz1 e1)(rl rh:Int×Tq)(r:Ts)(HX:Hid (r=(rl,rh,false)))(w:World)(HZ:Hid (∀W,Bw w W→Calls Tryz.prog 100 #[.agg #[.int .i64 i1,.bool s1,.slice p1 k1 c1,.slice q1 l1 d1,.int .i64 j1,.bool sz1,.slice pz1 kz1 cz1,.slice qz1 lz1 dz1,.bool e1]] W fun e w'=>e=.returned (.bool false)∧Bw W w'))
  (HL:Hid (∀W,Bw w W→Calls Tryz.prog 101 #[.agg #[.int .i64 j1,.bool sz1,.slice pz1 kz1 cz1,.slice qz1 lz1 dz1]] W fun e w'=>∃i2 s2 p2 k2 c2 q2 l2 d2,e=.returned (.agg #[.int .i64 i2,.bool s2,.slice p2 k2 c2,.slice q2 l2 d2])∧Hid (ERep w' (.agg #[.int .i64 i2,.bool s2,.slice p2 k2 c2,.slice q2 l2 d2]) rl)∧Bw W w'))
  (HH:Hid (∀W,Bw w W→Calls Tryz.prog 101 #[.agg #[.int .i64 i1,.bool s1,.slice p1 k1 c1,.slice q1 l1 d1]] W fun e w'=>∃i2 s2 p2 k2 c2 q2 l2 d2,e=.returned (.agg #[.int .i64 i2,.bool s2,.slice p2 k2 c2,.slice q2 l2 d2])∧Hid (ERep w' (.agg #[.int .i64 i2,.bool s2,.slice p2 k2 c2,.slice q2 l2 d2]) rh)∧Bw W w')):
  Calls Tryz.prog 64 #[.agg #[.int .i64 i1,.bool s1,.slice p1 k1 c1,.slice q1 l1 d1,.int .i64 j1,.bool sz1,.slice pz1 kz1 cz1,.slice qz1 lz1 dz1,.bool e1]] w fun e w'=>∃i3 s3 p3 k3 c3 q3 l3 d3 j3 sz3 pz3 kz3 cz3 qz3 lz3 dz3 e3,e=.returned (.agg #[.int .i64 i3,.bool s3,.slice p3 k3 c3,.slice q3 l3 d3,.int .i64 j3,.bool sz3,.slice pz3 kz3 cz3,.slice qz3 lz3 dz3,.bool e3])∧Hid (SRep w' (.agg #[.int .i64 i3,.bool s3,.slice p3 k3 c3,.slice q3 l3 d3,.int .i64 j3,.bool sz3,.slice pz3 kz3 cz3,.slice qz3 lz3 dz3,.bool e3]) r)∧Bw w w':=by
 go_enter Tryz.func64,Tryz.ntmps64;go_upto_region 1 with fail;generalize hA:World.alloc _ _=W0;have HV:=hid (pre2_o hA nd9 nd9);clear hA;obtain⟨m0,m1,m2,m3,m4,m5,m6,m7,m8,_⟩:=HV.out.1.cells9;go_wp2_with fail;refine(HZ.out _ HV.out.2.2).mono ?_;rintro e w1 ⟨rfl,hB1⟩;replace HV:=hid (Ai (HV.out.1.below hB1) (Ai (HV.out.2.1.below hB1) (HV.out.2.2.trans (hB1.mono HV.out.2.2.size))));clear hB1 m0 m1 m2 m3 m4 m5 m6 m7 m8;go_upto_region 3 with fail;have HQ:=hid (QQ.i1 (cs:=[.int .i64 i1,.bool s1,.slice p1 k1 c1,.slice q1 l1 d1,.int .i64 j1,.bool sz1,.slice pz1 kz1 cz1,.slice qz1 lz1 dz1,.bool e1]) HV.out.1 HV.out.2.2);have HS:=hid (fun (w':World) (hb:QQ w [(w.heap.size,[.int .i64 i1,.bool s1,.slice p1 k1 c1,.slice q1 l1 d1,.int .i64 j1,.bool sz1,.slice pz1 kz1 cz1,.slice qz1 lz1 dz1,.bool e1])] w')=>hb.s_9);have HN:Hid (Apart [(w.heap.size,[.int .i64 i1,.bool s1,.slice p1 k1 c1,.slice q1 l1 d1,.int .i64 j1,.bool sz1,.slice pz1 kz1 cz1,.slice qz1 lz1 dz1,.bool e1])] (w.heap.size+1)):=hid (ne1 (by omega));have HI:Hid (w.heap.size≤w.heap.size+1):=hid (by omega)
 go_region_held3 (fun w'=>w'.cell? ⟨w.heap.size,0,none⟩=some (.int .i64 i1)∧w'.cell? ⟨w.heap.size,1,none⟩=some (.bool s1)∧w'.cell? ⟨w.heap.size,2,none⟩=some (.slice p1 k1 c1)∧w'.cell? ⟨w.heap.size,3,none⟩=some (.slice q1 l1 d1)∧w'.cell? ⟨w.heap.size,4,none⟩=some (.int .i64 j1)∧w'.cell? ⟨w.heap.size,5,none⟩=some (.bool sz1)∧w'.cell? ⟨w.heap.size,6,none⟩=some (.slice pz1 kz1 cz1)∧w'.cell? ⟨w.heap.size,7,none⟩=some (.slice qz1 lz1 dz1)∧w'.cell? ⟨w.heap.size,8,none⟩=some (.bool e1)∧Hid (QQ w [(w.heap.size,[.int .i64 i1,.bool s1,.slice p1 k1 c1,.slice q1 l1 d1,.int .i64 j1,.bool sz1,.slice pz1 kz1 cz1,.slice qz1 lz1 dz1,.bool e1])] w'))
  (first | (refine HS.out _ ?_;first | (with_reducible exact HQ.out.drew) | (with_reducible assumption) | (with_reducible refine QQ.st9 ?_ HN.out HI.out;assumption)))
  (first
   | (go_at_call_of 101 pz1;refine(HL.out _ HQ.out.drew.bel).mono ?_;rintro e wa ⟨i4,s4,p4,k4,c4,q4,l4,d4,rfl,hE1,hB1⟩;have hQ1:=HQ.out.drew.call hB1;have hV1:=(HV.out.2.1.drew).below hB1)
   | (go_at_call_of 101 p1;refine(HH.out _ hQ1.bel).mono ?_;rintro e wb ⟨i5,s5,p5,k5,c5,q5,l5,d5,rfl,hE2,hB2⟩;have hQ2:=hQ1.call hB2;have hV2:=hV1.below hB2;obtain⟨g0,g1,g2,g3,g4,g5,g6,g7,g8,f0,f1,f2,f3,f4,f5,f6,f7,f8⟩:=hV2.cells9))
 rename_i hHeld
 clear hHeld;have HE:=hid (Ai hV2 (Ai (hE1.out.below hB2) (Ai hE2.out hQ2.bel)));clear hQ1 hQ2 hV1 hV2 hB1 hB2 hE1 hE2;go_wp2_with fail;exact sinv_ret rfl (HE.out.1.stores [.int .i64 i4,.bool s4,.slice p4 k4 c4,.slice q4 l4 d4,.int .i64 i5,.bool s5,.slice p5 k5 c5,.slice q5 l5 d5,.bool false] rfl nd9) ⟨_,_,_,_,_,_,_,_,_,_,_,_,_,_,_,_,_,rfl,hid ⟨_,_,_,_,_,_,_,_,_,_,_,_,_,_,_,_,_,rfl,by rw[HX.out];exact ERep.stores (k:=0) (l:=[.int .i64 i4,.bool s4,.slice p4 k4 c4,.slice q4 l4 d4,.int .i64 i5,.bool s5,.slice p5 k5 c5,.slice q5 l5 d5,.bool false]) HE.out.2.1 HE.out.1 nd9,by rw[HX.out];exact ERep.stores (k:=0) (l:=[.int .i64 i4,.bool s4,.slice p4 k4 c4,.slice q4 l4 d4,.int .i64 i5,.bool s5,.slice p5 k5 c5,.slice q5 l5 d5,.bool false]) HE.out.2.2.1 HE.out.1 nd9,by rw[HX.out]⟩,Below.stores (k:=0) (l:=[.int .i64 i4,.bool s4,.slice p4 k4 c4,.slice q4 l4 d4,.int .i64 i5,.bool s5,.slice p5 k5 c5,.slice q5 l5 d5,.bool false]) HE.out.2.2.2 HI.out⟩
theorem sinv_err(i1 s1 p1 k1 c1 q1 l1 d1 j1 sz1 pz1 kz1 cz1 qz1 lz1 dz1 e1)(w:World)(HZ:Hid (∀W,Bw w W→Calls Tryz.prog 100 #[.agg #[.int .i64 i1,.bool s1,.slice p1 k1 c1,.slice q1 l1 d1,.int .i64 j1,.bool sz1,.slice pz1 kz1 cz1,.slice qz1 lz1 dz1,.bool e1]] W fun e w'=>e=.returned (.bool true)∧Bw W w')):
  Calls Tryz.prog 64 #[.agg #[.int .i64 i1,.bool s1,.slice p1 k1 c1,.slice q1 l1 d1,.int .i64 j1,.bool sz1,.slice pz1 kz1 cz1,.slice qz1 lz1 dz1,.bool e1]] w fun e w'=>e=pan 10∧Bw w w':=by
 go_enter Tryz.func64,Tryz.ntmps64;go_upto_region 1 with fail;generalize hA:World.alloc _ _=W0;have HV:=hid (pre2_o hA nd9 nd9);clear hA;obtain⟨m0,m1,m2,m3,m4,m5,m6,m7,m8,_⟩:=HV.out.1.cells9;go_wp2_with fail;refine(HZ.out _ HV.out.2.2).mono ?_;rintro e w1 ⟨rfl,hB1⟩;have HE:=hid (HV.out.2.2.trans (hB1.mono HV.out.2.2.size));clear hB1 m0 m1 m2 m3 m4 m5 m6 m7 m8;go_wp2_with fail;exact⟨rfl,rfl,HE.out⟩
def sinv (x:Ts):Ts:=(einv x.2.1,einv x.1,false)
theorem sinv_any(i1 s1 p1 k1 c1 q1 l1 d1 j1 sz1 pz1 kz1 cz1 qz1 lz1 dz1 e1)(x:Ts)(w:World)(h:SRep w (.agg #[.int .i64 i1,.bool s1,.slice p1 k1 c1,.slice q1 l1 d1,.int .i64 j1,.bool sz1,.slice pz1 kz1 cz1,.slice qz1 lz1 dz1,.bool e1]) x)(hx:EOk 1000 x.1∧EOk 1000 x.2.1)(hz:szero x=false→(x.1.1=0→x.1.2.2.1≠0)∧(x.2.1.1=0→x.2.1.2.2.1≠0))(ht:TabOk w):
  (szero x=false→Calls Tryz.prog 64 #[.agg #[.int .i64 i1,.bool s1,.slice p1 k1 c1,.slice q1 l1 d1,.int .i64 j1,.bool sz1,.slice pz1 kz1 cz1,.slice qz1 lz1 dz1,.bool e1]] w fun e w'=>∃i3 s3 p3 k3 c3 q3 l3 d3 j3 sz3 pz3 kz3 cz3 qz3 lz3 dz3 e3,e=.returned (.agg #[.int .i64 i3,.bool s3,.slice p3 k3 c3,.slice q3 l3 d3,.int .i64 j3,.bool sz3,.slice pz3 kz3 cz3,.slice qz3 lz3 dz3,.bool e3])∧Hid (SRep w' (.agg #[.int .i64 i3,.bool s3,.slice p3 k3 c3,.slice q3 l3 d3,.int .i64 j3,.bool sz3,.slice pz3 kz3 cz3,.slice qz3 lz3 dz3,.bool e3]) (sinv x))∧Bw w w')∧
  (szero x=true→Calls Tryz.prog 64 #[.agg #[.int .i64 i1,.bool s1,.slice p1 k1 c1,.slice q1 l1 d1,.int .i64 j1,.bool sz1,.slice pz1 kz1 cz1,.slice qz1 lz1 dz1,.bool e1]] w fun e w'=>e=pan 10∧Bw w w'):=by
 have h1:=h.ends;have HZ:=hid (fun (W:World) (hW:Bw w W)=>szero_any i1 s1 p1 k1 c1 q1 l1 d1 j1 sz1 pz1 kz1 cz1 qz1 lz1 dz1 e1 x W (h.below hW));constructor
 ·intro h0;rw[h0] at HZ;have hz:=hz h0;exact sinv_ok i1 s1 p1 k1 c1 q1 l1 d1 j1 sz1 pz1 kz1 cz1 qz1 lz1 dz1 e1 _ _ _ (hid rfl) w HZ (hid fun W hW=>einv_any j1 sz1 pz1 kz1 cz1 qz1 lz1 dz1 x.2.1 W (h1.2.1.below hW) hx.2 hz.2 (ht.below hW)) (hid fun W hW=>einv_any i1 s1 p1 k1 c1 q1 l1 d1 x.1 W (h1.1.below hW) hx.1 hz.1 (ht.below hW))
 ·intro h0;rw[h0] at HZ;exact sinv_err i1 s1 p1 k1 c1 q1 l1 d1 j1 sz1 pz1 kz1 cz1 qz1 lz1 dz1 e1 w HZ
end Go.Proofs.YteblinkehldghaaGreatDoor
