/- The sanity check of the laws of intervals. -/
import Derived.Test.YtheojajaefjecaaGreatDoorRoadC
set_option maxHeartbeats 4000000
set_option maxRecDepth 100000
namespace Go.Proofs.YtheojajaefjecaaGreatDoor
open Go.RowKit Dg
theorem enter_splus(args:Array Value)(w:World):(callFunc 70 args).run Tryz.prog w=.ok (.enter 70 args) w:=call_enter Tryz.func70 (by kernel_rfl) rfl args w
theorem iAdd_ret{W:World}{B:Nat}{a0 a1 a2 a3 a4 a5 a6 a7 ev:Value}{tm:Array Value}{R:Ending→World→Prop}(h2:tm[6]?.getD undef=.pointer (some ⟨B,0,none⟩))(h3:tm[7]?.getD undef=ev)(hV:Box W B #[a0,a1,a2,a3,a4,a5,a6,a7])(hR:R (.returned (.tuple #[.agg #[a0,a1,a2,a3,a4,a5,a6,a7],ev])) W):
  bodyPost Tryz.prog Tryz.f26 R .ret {tmps:=tm,defers:=[]} W:=by
 obtain⟨g0,g1,g2,g3,g4,g5,g6,g7,_⟩:=hV.cells8;exact bodyPost_ret (v:=.tuple #[.agg #[a0,a1,a2,a3,a4,a5,a6,a7],ev]) (by simp [results,Tryz.results26,go_sem,h2,h3,g0,g1,g2,g3,g4,g5,g6,g7]) rfl hR
theorem iAdd_ok(s1 p1 k1 c1 q1 l1 d1 sz1 pz1 kz1 cz1 qz1 lz1 dz1 x1 y1 s2 p2 k2 c2 q2 l2 d2 sz2 pz2 kz2 cz2 qz2 lz2 dz2 x2 y2)(pr:Nat)(a b a' b':Tq)(w:World)
  (ha:NRep w (.agg #[.bool s1,.slice p1 k1 c1,.slice q1 l1 d1]) a)(hb:NRep w (.agg #[.bool sz1,.slice pz1 kz1 cz1,.slice qz1 lz1 dz1]) b)(ha':NRep w (.agg #[.bool s2,.slice p2 k2 c2,.slice q2 l2 d2]) a')(hb':NRep w (.agg #[.bool sz2,.slice pz2 kz2 cz2,.slice qz2 lz2 dz2]) b')
  (h1:large a.2.1 a.2.2=false)(h2:large b.2.1 b.2.2=false)(h3:large a'.2.1 a'.2.2=false)(h4:large b'.2.1 b'.2.2=false)(ht:TabOk w)
  (hx:(srd (a,b,x1,y1)).2.2=false)(hy:(srd (a',b',x2,y2)).2.2=false)(hp:pr≤128)
  (hr:EOk 1000 (splus (srd (a,b,x1,y1)) (srd (a',b',x2,y2))).1∧EOk 1000 (splus (srd (a,b,x1,y1)) (srd (a',b',x2,y2))).2.1)
  (hbg:ebig (sround (splus (srd (a,b,x1,y1)) (srd (a',b',x2,y2))) pr).1=false∧ebig (sround (splus (srd (a,b,x1,y1)) (srd (a',b',x2,y2))) pr).2.1=false):
  Calls Tryz.prog 26 #[.agg #[.bool s1,.slice p1 k1 c1,.slice q1 l1 d1,.bool sz1,.slice pz1 kz1 cz1,.slice qz1 lz1 dz1,.bool x1,.bool y1],.agg #[.bool s2,.slice p2 k2 c2,.slice q2 l2 d2,.bool sz2,.slice pz2 kz2 cz2,.slice qz2 lz2 dz2,.bool x2,.bool y2],.int .i64 (pr:Int)] w fun e w'=>∃s5 p5 k5 c5 q5 l5 d5 sz5 pz5 kz5 cz5 qz5 lz5 dz5 x5 y5,e=.returned (.tuple #[.agg #[.bool s5,.slice p5 k5 c5,.slice q5 l5 d5,.bool sz5,.slice pz5 kz5 cz5,.slice qz5 lz5 dz5,.bool x5,.bool y5],.int .i64 0])∧Hid (GRep w' (.agg #[.bool s5,.slice p5 k5 c5,.slice q5 l5 d5,.bool sz5,.slice pz5 kz5 cz5,.slice qz5 lz5 dz5,.bool x5,.bool y5]) (giv (sround (splus (srd (a,b,x1,y1)) (srd (a',b',x2,y2))) pr)))∧Bw w w':=by
 have HC:=hid (fun (W:World) (hW:Bw w W)=>
  rounded_ok s1 p1 k1 c1 q1 l1 d1 sz1 pz1 kz1 cz1 qz1 lz1 dz1 x1 y1 s2 p2 k2 c2 q2 l2 d2 sz2 pz2 kz2 cz2 qz2 lz2 dz2 x2 y2 pr 70 #[] a b a' b' (splus (srd (a,b,x1,y1)) (srd (a',b',x2,y2))) W
   (ha.below hW) (hb.below hW) (ha'.below hW) (hb'.below hW) h1 h2 h3 h4 (ht.below hW) hx hy hp hr hbg enter_splus
   (fun W' i3 s3 p3 k3 c3 q3 l3 d3 j3 sz3 pz3 kz3 cz3 qz3 lz3 dz3 e3 i4 s4 p4 k4 c4 q4 l4 d4 j4 sz4 pz4 kz4 cz4 qz4 lz4 dz4 e4 hW' hS1 hS2=>splus_any i3 s3 p3 k3 c3 q3 l3 d3 j3 sz3 pz3 kz3 cz3 qz3 lz3 dz3 e3 i4 s4 p4 k4 c4 q4 l4 d4 j4 sz4 pz4 kz4 cz4 qz4 lz4 dz4 e4 (srd (a,b,x1,y1)) (srd (a',b',x2,y2)) W' hS1 hS2
    ⟨(rdE_ok (.inr rfl) h1).le (by omega),(rdE_ok (.inl rfl) h2).le (by omega)⟩ ⟨(rdE_ok (.inr rfl) h3).le (by omega),(rdE_ok (.inl rfl) h4).le (by omega)⟩ ((ht.below hW).below hW')))
 obtain⟨D,hD⟩:∃D,D=giv (sround (splus (srd (a,b,x1,y1)) (srd (a',b',x2,y2))) pr):=⟨_,rfl⟩;rw[←hD] at HC ⊢;clear ha hb ha' hb' h1 h2 h3 h4 ht hx hy hr hbg hD hp;obtain⟨pi,hpi⟩:∃pi:Int,pi=(pr:Int):=⟨_,rfl⟩;rw[←hpi] at HC ⊢;clear hpi;go_enter Tryz.func26,Tryz.ntmps26;go_wp2_with fail;generalize hA:World.alloc _ _=W0;have HV:=hid (pre3_o hA nd8 nd8 nd8);clear hA;refine(HC.out _ HV.out.2.2.2).mono ?_;rintro e w1 ⟨s5,p5,k5,c5,q5,l5,d5,sz5,pz5,kz5,cz5,qz5,lz5,dz5,x5,y5,rfl,hG,hB1⟩;have HE:=hid (And.intro (HV.out.2.2.1.below hB1) (HV.out.2.2.2.trans (hB1.mono HV.out.2.2.2.size)));clear hB1;obtain⟨g0,g1,g2,g3,g4,g5,g6,g7,f0,f1,f2,f3,f4,f5,f6,f7⟩:=HE.out.1.cells8;go_wp2_with fail;exact iAdd_ret rfl rfl (HE.out.1.stores [.bool s5,.slice p5 k5 c5,.slice q5 l5 d5,.bool sz5,.slice pz5 kz5 cz5,.slice qz5 lz5 dz5,.bool x5,.bool y5] rfl nd8) ⟨s5,p5,k5,c5,q5,l5,d5,sz5,pz5,kz5,cz5,qz5,lz5,dz5,x5,y5,rfl,hid (GRep.stores (k:=0) (l:=[.bool s5,.slice p5 k5 c5,.slice q5 l5 d5,.bool sz5,.slice pz5 kz5 cz5,.slice qz5 lz5 dz5,.bool x5,.bool y5]) hG.out HE.out.1 nd8),Below.stores (k:=0) (l:=[.bool s5,.slice p5 k5 c5,.slice q5 l5 d5,.bool sz5,.slice pz5 kz5 cz5,.slice qz5 lz5 dz5,.bool x5,.bool y5]) HE.out.2 (by omega)⟩
theorem small_low(n:Nat)(h:n < 10):n < W32 ^ 1000000000:=lt_big (a:=1) (by rw[Nat.pow_one];unfold W32;omega) (by omega)
theorem lt_b16{x:Nat}(h:x < 10):x < B16 ^ 1000000000:=lt_16 (a:=1) (by rw[Nat.pow_one];unfold B16;omega) (by omega)
theorem ratInt(v:Value)(n:Nat)(hn:n < 10)(w:World)(h:QNorm w v (false,n,1)):
  Calls Tryz.prog 29 #[v] w fun e w'=>∃s1 p1 k1 c1 q1 l1 d1,e=.returned (.agg #[.bool s1,.slice p1 k1 c1,.slice q1 l1 d1])∧Hid (FNorm w' (.agg #[.bool s1,.slice p1 k1 c1,.slice q1 l1 d1]) (false,n,0))∧Bw w w':=
 fopen (t:=(false,n,0)) ((rRat_any v false n 1 w h (lt_b16 (by omega)) (lt_b16 (by omega))).mono fun _ _ ⟨v',he,hF,hB⟩=>⟨v',he,hF,hB⟩)
theorem intInt(n:Nat)(hn:n < 10)(hn0:n≠0)(w:World):
  Calls Tryz.prog 30 #[.int .i64 (n:Int)] w fun e w'=>∃v',e=.returned v'∧QNorm w' v' (false,n,1)∧Bw w w':=by
 refine(rInt_any (n:Int) w (by omega) (by omega)).mono ?_;rintro e w' ⟨v',he,hF,hB⟩;refine⟨v',he,?_,hB⟩
 have e1:mkq (decide ((n:Int) < 0)) (n:Int).natAbs 1=(false,n,1):=by
  rw[decide_eq_false (by omega),Int.natAbs_natCast,mkq_one hn0]
 rwa [e1] at hF
theorem rep_one{w:World}{p}{k c n:Nat}(h:Rep W32 w (.slice p k c) n)(h0:0 < n)(h1:n < W32):k=1∧k≤c∧∃b off,p=some ⟨b,off,none⟩∧w.cell? ⟨b,off,none⟩=some (.int .u32 (n:Nat)):=by
 obtain⟨p',k',c',hv,hk,hl,hs⟩:=h;obtain⟨rfl,rfl,rfl⟩:=Value.slice.inj hv;have hk1:k=1:=hl.unique W32_one ⟨by rw[Nat.pow_one];exact h1,fun _=>by rw[Nat.sub_self,Nat.pow_zero];omega⟩;subst hk1;obtain⟨b,off,hp,hc⟩:=hs (by omega);refine⟨rfl,hk,b,off,hp,?_⟩;have h2:=hc 0 (by omega)
 have e:dg W32 n 0=n:=by unfold dg;rw[Nat.pow_zero,Nat.div_one,Nat.mod_eq_of_lt h1]
 rwa [e] at h2
theorem rep_zero{w:World}{p k c}(h:Rep W32 w (.slice p k c) 0):k=0:=by
 obtain⟨p',k',c',hv,hk,hl,hs⟩:=h;obtain⟨rfl,rfl,rfl⟩:=Value.slice.inj hv;exact(hl.zero_iff W32_pos).1 rfl
theorem GRep.parts{w:World}(s p k c q l d sz pz kz cz qz lz dz x y){a:Ti}(h:GRep w (.agg #[.bool s,.slice p k c,.slice q l d,.bool sz,.slice pz kz cz,.slice qz lz dz,.bool x,.bool y]) a):FNorm w (.agg #[.bool s,.slice p k c,.slice q l d]) a.1∧FNorm w (.agg #[.bool sz,.slice pz kz cz,.slice qz lz dz]) a.2.1∧x=a.2.2.1∧y=a.2.2.2:=by
 obtain⟨s2,p2,k2,c2,q2,l2,d2,sz2,pz2,kz2,cz2,qz2,lz2,dz2,x2,y2,hv,h1,h2,h3⟩:=h;have e:=Value.agg.inj hv;simp at e;obtain⟨rfl,⟨rfl,rfl,rfl⟩,⟨rfl,rfl,rfl⟩,rfl,⟨rfl,rfl,rfl⟩,⟨rfl,rfl,rfl⟩,rfl,rfl⟩:=e;exact⟨h1,h2,h3⟩
theorem FNorm.parts{w:World}{s}{vn vd:Value}{t:Tq}(h:FNorm w (.agg #[.bool s,vn,vd]) t):s=t.1∧Rep W32 w vn t.2.1∧Rep W32 w vd t.2.2:=by
 obtain⟨vn',vd',hv,h1,h2⟩:=h;have e:=Value.agg.inj hv;simp at e;obtain⟨rfl,rfl,rfl⟩:=e;exact⟨rfl,h1,h2⟩
theorem lt_1000s{n:Nat}(h:n < 10):n < W32 ^ 1000:=by
 have h1:n < W32 ^ 1:=by rw[Nat.pow_one];unfold W32;omega
 generalize hB:1000=B;exact lt_pow h1 (by omega)
theorem eok_small{n:Nat}(h:n < 10):EOk 1000 (0,false,n,1):=by
 refine⟨fun _=>⟨false,n,1,by omega,?_⟩,fun h=>absurd rfl h,lt_1000s h,lt_1000s (n:=1) (by omega)⟩;unfold frac;rw[Nat.gcd_one_right,Nat.div_one,Nat.div_one];rfl
def r12:Ts:=srd ((false,1,0),(false,2,0),false,false)
def r34:Ts:=srd ((false,3,0),(false,4,0),false,false)
theorem r12_in:r12.2.2=false:=by decide+kernel
theorem r34_in:r34.2.2=false:=by decide+kernel
theorem r46:splus r12 r34=((0,false,4,1),(0,false,6,1),false):=by decide+kernel
theorem d46:giv (sround (splus r12 r34) 0)=((false,4,0),(false,6,0),false,false):=by decide+kernel
theorem b46:ebig (sround (splus r12 r34) 0).1=false∧ebig (sround (splus r12 r34) 0).2.1=false:=by decide+kernel
theorem small_large:large 1 0=false∧large 2 0=false∧large 3 0=false∧large 4 0=false:=by decide+kernel
theorem e46:EOk 1000 (splus r12 r34).1∧EOk 1000 (splus r12 r34).2.1:=by
 rw[r46];exact⟨eok_small (by omega),eok_small (by omega)⟩
theorem nrep_small{w:World}{v:Value}{n:Nat}(h:FNorm w v (false,n,0))(hn:n < 10):NRep w v (false,n,0):=FRep.arep h (small_low n hn) (small_low 0 (by omega))
theorem awake3_any(w:World)(ht:TabOk w):
  Calls Tryz.prog 13 #[] w fun e w'=>e=.returned (.bool true)∧Bw w w':=by
 have HT:=hid ht;have HI:=hid (fun (n:Nat) (h:n < 10) (h0:n≠0) (W:World)=>intInt n h h0 W);clear ht;go_enter Tryz.func13,Tryz.ntmps13;go_wp2_with fail;refine(HI.out 1 (by omega) (by omega) w).mono ?_;rintro e w1 ⟨v1,rfl,hq1,hb1⟩;go_wp2_with fail;refine(ratInt v1 1 (by omega) w1 hq1).mono ?_;rintro e w2 ⟨s1,p1,k1,c1,q1,l1,d1,rfl,hF1,hb2⟩;have HB2:=hid (hb1.trans (hb2.mono hb1.size));clear hb1 hb2 hq1;go_wp2_with fail;refine(HI.out 2 (by omega) (by omega) w2).mono ?_;rintro e w3 ⟨v3,rfl,hq3,hb3⟩;go_wp2_with fail;refine(ratInt v3 2 (by omega) w3 hq3).mono ?_;rintro e w4 ⟨s2,p2,k2,c2,q2,l2,d2,rfl,hF2,hb4⟩;have HB4:=hid (held_any HB2.out (hb3.trans (hb4.mono hb3.size)));have HF1:=hid (hF1.out.below (hb3.trans (hb4.mono hb3.size)));clear hb3 hb4 hq3 hF1;go_wp2_with fail;refine(HI.out 3 (by omega) (by omega) w4).mono ?_;rintro e w5 ⟨v5,rfl,hq5,hb5⟩;go_wp2_with fail;refine(ratInt v5 3 (by omega) w5 hq5).mono ?_;rintro e w6 ⟨s3,p3,k3,c3,q3,l3,d3,rfl,hF3,hb6⟩;have hb56:=hb5.trans (hb6.mono hb5.size);have HB6:=hid (held_any HB4.out hb56);have HG1:=hid (HF1.out.below hb56);have HG2:=hid (hF2.out.below hb56);clear hb5 hb6 hq5 HF1 hF2 hb56;go_wp2_with fail;refine(HI.out 4 (by omega) (by omega) w6).mono ?_;rintro e w7 ⟨v7,rfl,hq7,hb7⟩;go_wp2_with fail;refine(ratInt v7 4 (by omega) w7 hq7).mono ?_;rintro e w8 ⟨s4,p4,k4,c4,q4,l4,d4,rfl,hF4,hb8⟩;have hb78:=hb7.trans (hb8.mono hb7.size);have HB8:=hid (held_any HB6.out hb78);have HH:=hid (And.intro (HG1.out.below hb78) (And.intro (HG2.out.below hb78) (And.intro (hF3.out.below hb78) hF4.out)));clear hb7 hb8 hq7 HG1 HG2 hF3 hF4 hb78
 have HA:=hid (fun (W:World) (hW:Bw w8 W)=>iAdd_ok s1 p1 k1 c1 q1 l1 d1 s2 p2 k2 c2 q2 l2 d2 false false s3 p3 k3 c3 q3 l3 d3 s4 p4 k4 c4 q4 l4 d4 false false 0 (false,1,0) (false,2,0) (false,3,0) (false,4,0) W
  (NRep.below (nrep_small HH.out.1 (by omega)) hW) (NRep.below (nrep_small HH.out.2.1 (by omega)) hW) (NRep.below (nrep_small HH.out.2.2.1 (by omega)) hW) (NRep.below (nrep_small HH.out.2.2.2 (by omega)) hW)
  small_large.1 small_large.2.1 small_large.2.2.1 small_large.2.2.2 ((HT.out.below HB8.out).below hW) r12_in r34_in (by omega) e46 b46)
 obtain⟨D,hD⟩:∃D,D=giv (sround (splus r12 r34) 0):=⟨_,rfl⟩
 change Hid (∀W,Bw w8 W→Calls _ _ _ W fun e w'=>∃s5 p5 k5 c5 q5 l5 d5 sz5 pz5 kz5 cz5 qz5 lz5 dz5 x5 y5,e=.returned (.tuple #[.agg #[.bool s5,.slice p5 k5 c5,.slice q5 l5 d5,.bool sz5,.slice pz5 kz5 cz5,.slice qz5 lz5 dz5,.bool x5,.bool y5],.int .i64 0])∧Hid (GRep w' (.agg #[.bool s5,.slice p5 k5 c5,.slice q5 l5 d5,.bool sz5,.slice pz5 kz5 cz5,.slice qz5 lz5 dz5,.bool x5,.bool y5]) (giv (sround (splus r12 r34) 0)))∧Bw W w') at HA
 rw[←hD] at HA;rw[d46] at hD;have HD:=hid hD;clear hD HI HH;go_upto_region 2 with fail;generalize hA:World.alloc _ _=W0;have HV:=hid (pre4_o hA nd3 nd3 nd3 nd3);clear hA;obtain⟨m0,m1,m2,_⟩:=HV.out.1.cells3;obtain⟨n0,n1,n2,_⟩:=HV.out.2.1.cells3;obtain⟨o0,o1,o2,_⟩:=HV.out.2.2.1.cells3;obtain⟨u0,u1,u2,_⟩:=HV.out.2.2.2.1.cells3;go_wp2_with fail;refine(HA.out _ HV.out.2.2.2.2).mono ?_;rintro e w9 ⟨s5,p5,k5,c5,q5,l5,d5,sz5,pz5,kz5,cz5,qz5,lz5,dz5,x5,y5,rfl,hG,hB9⟩;clear m0 m1 m2 n0 n1 n2 o0 o1 o2 u0 u1 u2 HA;have HB9:=hid (HB8.out.trans ((HV.out.2.2.2.2.trans (hB9.mono HV.out.2.2.2.2.size)).mono HB8.out.size));clear hB9;go_upto_region 3 with fail;have HX:=hid (pre1 w9 [.bool s5,.slice p5 k5 c5,.slice q5 l5 d5,.bool sz5,.slice pz5 kz5 cz5,.slice qz5 lz5 dz5,.bool x5,.bool y5] 26 nd8);generalize w9.alloc (.cells #[.bool s5,.slice p5 k5 c5,.slice q5 l5 d5,.bool sz5,.slice pz5 kz5 cz5,.slice qz5 lz5 dz5,.bool x5,.bool y5] 26)=w10 at *;have hP:=GRep.parts _ _ _ _ _ _ _ _ _ _ _ _ _ _ _ _ (hG.out.below HX.out.2);rw[HD.out] at hP;obtain⟨hf1,hf2,hx5,hy5⟩:=hP;have hx5':x5=false:=hx5;have hy5':y5=false:=hy5;subst hx5' hy5';clear hx5 hy5 hG;obtain⟨_,ha,_⟩:=hf1.parts;obtain⟨_,hb,hc⟩:=hf2.parts;have ha':Rep W32 w10 (.slice p5 k5 c5) 4:=ha;have hb':Rep W32 w10 (.slice pz5 kz5 cz5) 6:=hb;have hc':Rep W32 w10 (.slice qz5 lz5 dz5) 0:=hc;clear ha hb hc;obtain⟨rfl,hk1,ba,oa,rfl,hca⟩:=rep_one ha' (by omega) (by decide);obtain⟨rfl,hk2,bb,ob,rfl,hcb⟩:=rep_one hb' (by omega) (by decide);obtain rfl:=rep_zero hc';clear ha' hb' hc' hf1 hf2;obtain⟨m0,m1,m2,m3,m4,m5,m6,m7,_⟩:=HX.out.1.cells8;go_wp2_with fail
 go_ret
 exact⟨rfl,HB9.out.trans (HX.out.2.mono HB9.out.size)⟩
end Go.Proofs.YtheojajaefjecaaGreatDoor
