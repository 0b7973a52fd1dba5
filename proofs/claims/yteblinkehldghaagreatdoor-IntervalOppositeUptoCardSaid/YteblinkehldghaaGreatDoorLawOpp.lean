/- The law IntervalOpposite. -/
import Derived.Test.YteblinkehldghaaGreatDoorOppY
set_option maxHeartbeats 8000000
set_option maxRecDepth 100000
namespace Go.Proofs.YteblinkehldghaaGreatDoor
open Go.RowKit Dg
theorem IntervalOpposite_no(s1 p1 k1 c1 q1 l1 d1 sz1 pz1 kz1 cz1 qz1 lz1 dz1 x1 y1 s2 p2 k2 c2 q2 l2 d2 sz2 pz2 kz2 cz2 qz2 lz2 dz2 x2 y2 p)(cs ca cm:Int)(V V2 VA VM:Ti)(w:World)(hcs:cs=1∨cs=2)
  (h0:∀W,Bw w W→Calls Tryz.prog 13 #[.agg #[.bool s1,.slice p1 k1 c1,.slice q1 l1 d1,.bool sz1,.slice pz1 kz1 cz1,.slice qz1 lz1 dz1,.bool x1,.bool y1],.agg #[.bool s2,.slice p2 k2 c2,.slice q2 l2 d2,.bool sz2,.slice pz2 kz2 cz2,.slice qz2 lz2 dz2,.bool x2,.bool y2],.int .i64 p] W (GT W cs V))(h1:∀W,Bw w W→Calls Tryz.prog 13 #[.agg #[.bool s2,.slice p2 k2 c2,.slice q2 l2 d2,.bool sz2,.slice pz2 kz2 cz2,.slice qz2 lz2 dz2,.bool x2,.bool y2],.agg #[.bool s1,.slice p1 k1 c1,.slice q1 l1 d1,.bool sz1,.slice pz1 kz1 cz1,.slice qz1 lz1 dz1,.bool x1,.bool y1],.int .i64 p] W (GT W cs V2))(h2:∀W,Bw w W→Calls Tryz.prog 15 #[.agg #[.bool s1,.slice p1 k1 c1,.slice q1 l1 d1,.bool sz1,.slice pz1 kz1 cz1,.slice qz1 lz1 dz1,.bool x1,.bool y1],.agg #[.bool s2,.slice p2 k2 c2,.slice q2 l2 d2,.bool sz2,.slice pz2 kz2 cz2,.slice qz2 lz2 dz2,.bool x2,.bool y2],.int .i64 p] W (GT W ca VA))(h3:∀W,Bw w W→Calls Tryz.prog 15 #[.agg #[.bool s2,.slice p2 k2 c2,.slice q2 l2 d2,.bool sz2,.slice pz2 kz2 cz2,.slice qz2 lz2 dz2,.bool x2,.bool y2],.agg #[.bool s1,.slice p1 k1 c1,.slice q1 l1 d1,.bool sz1,.slice pz1 kz1 cz1,.slice qz1 lz1 dz1,.bool x1,.bool y1],.int .i64 p] W (GT W ca VA))(h4:∀W,Bw w W→Calls Tryz.prog 7 #[.agg #[.bool s1,.slice p1 k1 c1,.slice q1 l1 d1,.bool sz1,.slice pz1 kz1 cz1,.slice qz1 lz1 dz1,.bool x1,.bool y1],.agg #[.bool s2,.slice p2 k2 c2,.slice q2 l2 d2,.bool sz2,.slice pz2 kz2 cz2,.slice qz2 lz2 dz2,.bool x2,.bool y2],.int .i64 p] W (GT W cm VM))(h5:∀W,Bw w W→Calls Tryz.prog 7 #[.agg #[.bool s2,.slice p2 k2 c2,.slice q2 l2 d2,.bool sz2,.slice pz2 kz2 cz2,.slice qz2 lz2 dz2,.bool x2,.bool y2],.agg #[.bool s1,.slice p1 k1 c1,.slice q1 l1 d1,.bool sz1,.slice pz1 kz1 cz1,.slice qz1 lz1 dz1,.bool x1,.bool y1],.int .i64 p] W (GT W cm VM))(h6:∀W s5 p5 k5 c5 q5 l5 d5 sz5 pz5 kz5 cz5 qz5 lz5 dz5 x5 y5 s6 p6 k6 c6 q6 l6 d6 sz6 pz6 kz6 cz6 qz6 lz6 dz6 x6 y6,GRep W (.agg #[.bool s5,.slice p5 k5 c5,.slice q5 l5 d5,.bool sz5,.slice pz5 kz5 cz5,.slice qz5 lz5 dz5,.bool x5,.bool y5]) VA→GRep W (.agg #[.bool s6,.slice p6 k6 c6,.slice q6 l6 d6,.bool sz6,.slice pz6 kz6 cz6,.slice qz6 lz6 dz6,.bool x6,.bool y6]) VA→Calls Tryz.prog 11 #[.agg #[.bool s5,.slice p5 k5 c5,.slice q5 l5 d5,.bool sz5,.slice pz5 kz5 cz5,.slice qz5 lz5 dz5,.bool x5,.bool y5],.int .i64 ca,.agg #[.bool s6,.slice p6 k6 c6,.slice q6 l6 d6,.bool sz6,.slice pz6 kz6 cz6,.slice qz6 lz6 dz6,.bool x6,.bool y6],.int .i64 ca] W fun e w'=>e=.returned (.bool true)∧Bw W w')(h7:∀W s5 p5 k5 c5 q5 l5 d5 sz5 pz5 kz5 cz5 qz5 lz5 dz5 x5 y5 s6 p6 k6 c6 q6 l6 d6 sz6 pz6 kz6 cz6 qz6 lz6 dz6 x6 y6,GRep W (.agg #[.bool s5,.slice p5 k5 c5,.slice q5 l5 d5,.bool sz5,.slice pz5 kz5 cz5,.slice qz5 lz5 dz5,.bool x5,.bool y5]) VM→GRep W (.agg #[.bool s6,.slice p6 k6 c6,.slice q6 l6 d6,.bool sz6,.slice pz6 kz6 cz6,.slice qz6 lz6 dz6,.bool x6,.bool y6]) VM→Calls Tryz.prog 11 #[.agg #[.bool s5,.slice p5 k5 c5,.slice q5 l5 d5,.bool sz5,.slice pz5 kz5 cz5,.slice qz5 lz5 dz5,.bool x5,.bool y5],.int .i64 cm,.agg #[.bool s6,.slice p6 k6 c6,.slice q6 l6 d6,.bool sz6,.slice pz6 kz6 cz6,.slice qz6 lz6 dz6,.bool x6,.bool y6],.int .i64 cm] W fun e w'=>e=.returned (.bool true)∧Bw W w')(h8:∀W,Bw w W→Calls Tryz.prog 12 #[] W fun e w'=>e=.returned (.bool true)∧Bw W w'):
  Calls Tryz.prog 4 #[.agg #[.bool s1,.slice p1 k1 c1,.slice q1 l1 d1,.bool sz1,.slice pz1 kz1 cz1,.slice qz1 lz1 dz1,.bool x1,.bool y1],.agg #[.bool s2,.slice p2 k2 c2,.slice q2 l2 d2,.bool sz2,.slice pz2 kz2 cz2,.slice qz2 lz2 dz2,.bool x2,.bool y2],.int .i64 p] w fun e w'=>e=.returned (.bool true)∧Bw w w':=by
 have H0:=hid h0;have H1:=hid h1;have H2:=hid h2;have H3:=hid h3;have H4:=hid h4;have H5:=hid h5;have H6:=hid h6;have H7:=hid h7;have H8:=hid h8;clear h0 h1 h2 h3 h4 h5 h6 h7 h8
 rcases hcs with rfl | rfl
 all_goals
  go_enter Tryz.func4,Tryz.ntmps4
  go_wp2_with fail
  generalize hA:World.alloc _ _=W0
  have HV:=hid (pre2_o hA nd8 nd8)
  clear hA
  have HB:=hid HV.out.2.2
  have Ba:=hid HV.out.1
  have Bb:=hid HV.out.2.1
  clear HV
  refine(H0.out _ HB.out).mono ?_
  rintro e w1 ⟨s11,p11,k11,c11,q11,l11,d11,sz11,pz11,kz11,cz11,qz11,lz11,dz11,x11,y11,rfl,hG,hB⟩
  have zw1_a:=(Ba.out.below hB).lt
  have zw1_b:=(Bb.out.below hB).lt
  go_upto_region 2 with fail
  have HX:=hid (pre1 w1 [.bool s11,.slice p11 k11 c11,.slice q11 l11 d11,.bool sz11,.slice pz11 kz11 cz11,.slice qz11 lz11 dz11,.bool x11,.bool y11] 26 nd8)
  generalize w1.alloc (.cells #[.bool s11,.slice p11 k11 c11,.slice q11 l11 d11,.bool sz11,.slice pz11 kz11 cz11,.slice qz11 lz11 dz11,.bool x11,.bool y11] 26)=W11 at *
  have hC:=hB.trans (HX.out.2.mono hB.size)
  replace Ba:=hid (Ba.out.below hC)
  replace Bb:=hid (Bb.out.below hC)
  replace HB:=hid (HB.out.trans ((hC).mono HB.out.size))
  have Bc:=hid HX.out.1
  have Gc_:=hid (GRep.below hG.out HX.out.2)
  clear hG hB hC HX zw1_a zw1_b
  obtain⟨m0,m1,m2,m3,m4,m5,m6,m7,_⟩:=Ba.out.cells8
  obtain⟨n0,n1,n2,n3,n4,n5,n6,n7,_⟩:=Bb.out.cells8
  go_wp2_with fail
  refine(H1.out _ HB.out).mono ?_
  rintro e w2 ⟨s12,p12,k12,c12,q12,l12,d12,sz12,pz12,kz12,cz12,qz12,lz12,dz12,x12,y12,rfl,hG,hB⟩
  clear m0 m1 m2 m3 m4 m5 m6 m7 n0 n1 n2 n3 n4 n5 n6 n7
  have zw2_a:=(Ba.out.below hB).lt
  have zw2_b:=(Bb.out.below hB).lt
  have zw2_c:=(Bc.out.below hB).lt
  go_upto_region 3 with fail
  have HX:=hid (pre1 w2 [.bool s12,.slice p12 k12 c12,.slice q12 l12 d12,.bool sz12,.slice pz12 kz12 cz12,.slice qz12 lz12 dz12,.bool x12,.bool y12] 26 nd8)
  generalize w2.alloc (.cells #[.bool s12,.slice p12 k12 c12,.slice q12 l12 d12,.bool sz12,.slice pz12 kz12 cz12,.slice qz12 lz12 dz12,.bool x12,.bool y12] 26)=W12 at *
  have hC:=hB.trans (HX.out.2.mono hB.size)
  replace Ba:=hid (Ba.out.below hC)
  replace Bb:=hid (Bb.out.below hC)
  replace Bc:=hid (Bc.out.below hC)
  replace Gc_:=hid (Gc_.out.below hC)
  replace HB:=hid (HB.out.trans ((hC).mono HB.out.size))
  have Bd:=hid HX.out.1
  have Gd_:=hid (GRep.below hG.out HX.out.2)
  clear hG hB hC HX zw2_a zw2_b zw2_c
  clear Bc Gc_
  clear Bd Gd_
  obtain⟨m0,m1,m2,m3,m4,m5,m6,m7,_⟩:=Ba.out.cells8
  obtain⟨n0,n1,n2,n3,n4,n5,n6,n7,_⟩:=Bb.out.cells8
  go_wp2_with fail
  refine(H2.out _ HB.out).mono ?_
  rintro e w3 ⟨s13,p13,k13,c13,q13,l13,d13,sz13,pz13,kz13,cz13,qz13,lz13,dz13,x13,y13,rfl,hG,hB⟩
  clear m0 m1 m2 m3 m4 m5 m6 m7 n0 n1 n2 n3 n4 n5 n6 n7
  have zw3_a:=(Ba.out.below hB).lt
  have zw3_b:=(Bb.out.below hB).lt
  go_upto_region 11 with fail
  have HX:=hid (pre1 w3 [.bool s13,.slice p13 k13 c13,.slice q13 l13 d13,.bool sz13,.slice pz13 kz13 cz13,.slice qz13 lz13 dz13,.bool x13,.bool y13] 26 nd8)
  generalize w3.alloc (.cells #[.bool s13,.slice p13 k13 c13,.slice q13 l13 d13,.bool sz13,.slice pz13 kz13 cz13,.slice qz13 lz13 dz13,.bool x13,.bool y13] 26)=W13 at *
  have hC:=hB.trans (HX.out.2.mono hB.size)
  replace Ba:=hid (Ba.out.below hC)
  replace Bb:=hid (Bb.out.below hC)
  replace HB:=hid (HB.out.trans ((hC).mono HB.out.size))
  have Bs:=hid HX.out.1
  have Gs_:=hid (GRep.below hG.out HX.out.2)
  clear hG hB hC HX zw3_a zw3_b
  obtain⟨m0,m1,m2,m3,m4,m5,m6,m7,_⟩:=Ba.out.cells8
  obtain⟨n0,n1,n2,n3,n4,n5,n6,n7,_⟩:=Bb.out.cells8
  go_wp2_with fail
  refine(H3.out _ HB.out).mono ?_
  rintro e w4 ⟨s14,p14,k14,c14,q14,l14,d14,sz14,pz14,kz14,cz14,qz14,lz14,dz14,x14,y14,rfl,hG,hB⟩
  clear m0 m1 m2 m3 m4 m5 m6 m7 n0 n1 n2 n3 n4 n5 n6 n7
  have zw4_a:=(Ba.out.below hB).lt
  have zw4_b:=(Bb.out.below hB).lt
  have zw4_s:=(Bs.out.below hB).lt
  go_upto_region 12 with fail
  have HX:=hid (pre1 w4 [.bool s14,.slice p14 k14 c14,.slice q14 l14 d14,.bool sz14,.slice pz14 kz14 cz14,.slice qz14 lz14 dz14,.bool x14,.bool y14] 26 nd8)
  generalize w4.alloc (.cells #[.bool s14,.slice p14 k14 c14,.slice q14 l14 d14,.bool sz14,.slice pz14 kz14 cz14,.slice qz14 lz14 dz14,.bool x14,.bool y14] 26)=W14 at *
  have hC:=hB.trans (HX.out.2.mono hB.size)
  replace Ba:=hid (Ba.out.below hC)
  replace Bb:=hid (Bb.out.below hC)
  replace Bs:=hid (Bs.out.below hC)
  replace Gs_:=hid (Gs_.out.below hC)
  replace HB:=hid (HB.out.trans ((hC).mono HB.out.size))
  have Bt:=hid HX.out.1
  have Gt_:=hid (GRep.below hG.out HX.out.2)
  clear hG hB hC HX zw4_a zw4_b zw4_s
  obtain⟨m0,m1,m2,m3,m4,m5,m6,m7,_⟩:=Ba.out.cells8
  obtain⟨n0,n1,n2,n3,n4,n5,n6,n7,_⟩:=Bb.out.cells8
  go_wp2_with fail
  refine(H4.out _ HB.out).mono ?_
  rintro e w5 ⟨s15,p15,k15,c15,q15,l15,d15,sz15,pz15,kz15,cz15,qz15,lz15,dz15,x15,y15,rfl,hG,hB⟩
  clear m0 m1 m2 m3 m4 m5 m6 m7 n0 n1 n2 n3 n4 n5 n6 n7
  have zw5_a:=(Ba.out.below hB).lt
  have zw5_b:=(Bb.out.below hB).lt
  have zw5_s:=(Bs.out.below hB).lt
  have zw5_t:=(Bt.out.below hB).lt
  go_upto_region 13 with fail
  have HX:=hid (pre1 w5 [.bool s15,.slice p15 k15 c15,.slice q15 l15 d15,.bool sz15,.slice pz15 kz15 cz15,.slice qz15 lz15 dz15,.bool x15,.bool y15] 26 nd8)
  generalize w5.alloc (.cells #[.bool s15,.slice p15 k15 c15,.slice q15 l15 d15,.bool sz15,.slice pz15 kz15 cz15,.slice qz15 lz15 dz15,.bool x15,.bool y15] 26)=W15 at *
  have hC:=hB.trans (HX.out.2.mono hB.size)
  replace Ba:=hid (Ba.out.below hC)
  replace Bb:=hid (Bb.out.below hC)
  replace Bs:=hid (Bs.out.below hC)
  replace Gs_:=hid (Gs_.out.below hC)
  replace Bt:=hid (Bt.out.below hC)
  replace Gt_:=hid (Gt_.out.below hC)
  replace HB:=hid (HB.out.trans ((hC).mono HB.out.size))
  have Bu:=hid HX.out.1
  have Gu_:=hid (GRep.below hG.out HX.out.2)
  clear hG hB hC HX zw5_a zw5_b zw5_s zw5_t
  obtain⟨m0,m1,m2,m3,m4,m5,m6,m7,_⟩:=Ba.out.cells8
  obtain⟨n0,n1,n2,n3,n4,n5,n6,n7,_⟩:=Bb.out.cells8
  go_wp2_with fail
  refine(H5.out _ HB.out).mono ?_
  rintro e w6 ⟨s16,p16,k16,c16,q16,l16,d16,sz16,pz16,kz16,cz16,qz16,lz16,dz16,x16,y16,rfl,hG,hB⟩
  clear m0 m1 m2 m3 m4 m5 m6 m7 n0 n1 n2 n3 n4 n5 n6 n7
  have zw6_a:=(Ba.out.below hB).lt
  have zw6_b:=(Bb.out.below hB).lt
  have zw6_s:=(Bs.out.below hB).lt
  have zw6_t:=(Bt.out.below hB).lt
  have zw6_u:=(Bu.out.below hB).lt
  go_upto_region 14 with fail
  have HX:=hid (pre1 w6 [.bool s16,.slice p16 k16 c16,.slice q16 l16 d16,.bool sz16,.slice pz16 kz16 cz16,.slice qz16 lz16 dz16,.bool x16,.bool y16] 26 nd8)
  generalize w6.alloc (.cells #[.bool s16,.slice p16 k16 c16,.slice q16 l16 d16,.bool sz16,.slice pz16 kz16 cz16,.slice qz16 lz16 dz16,.bool x16,.bool y16] 26)=W16 at *
  have hC:=hB.trans (HX.out.2.mono hB.size)
  replace Ba:=hid (Ba.out.below hC)
  replace Bb:=hid (Bb.out.below hC)
  replace Bs:=hid (Bs.out.below hC)
  replace Gs_:=hid (Gs_.out.below hC)
  replace Bt:=hid (Bt.out.below hC)
  replace Gt_:=hid (Gt_.out.below hC)
  replace Bu:=hid (Bu.out.below hC)
  replace Gu_:=hid (Gu_.out.below hC)
  replace HB:=hid (HB.out.trans ((hC).mono HB.out.size))
  have Bv:=hid HX.out.1
  have Gv_:=hid (GRep.below hG.out HX.out.2)
  clear hG hB hC HX zw6_a zw6_b zw6_s zw6_t zw6_u
  obtain⟨m0,m1,m2,m3,m4,m5,m6,m7,_⟩:=Bt.out.cells8
  obtain⟨n0,n1,n2,n3,n4,n5,n6,n7,_⟩:=Bs.out.cells8
  go_wp2_with fail
  refine(H6.out _ s14 p14 k14 c14 q14 l14 d14 sz14 pz14 kz14 cz14 qz14 lz14 dz14 x14 y14 s13 p13 k13 c13 q13 l13 d13 sz13 pz13 kz13 cz13 qz13 lz13 dz13 x13 y13 Gt_.out Gs_.out).mono ?_
  rintro e w7 ⟨rfl,hB⟩
  clear m0 m1 m2 m3 m4 m5 m6 m7 n0 n1 n2 n3 n4 n5 n6 n7
  replace Ba:=hid (Ba.out.below hB)
  replace Bb:=hid (Bb.out.below hB)
  replace Bs:=hid (Bs.out.below hB)
  replace Gs_:=hid (Gs_.out.below hB)
  replace Bt:=hid (Bt.out.below hB)
  replace Gt_:=hid (Gt_.out.below hB)
  replace Bu:=hid (Bu.out.below hB)
  replace Gu_:=hid (Gu_.out.below hB)
  replace Bv:=hid (Bv.out.below hB)
  replace Gv_:=hid (Gv_.out.below hB)
  replace HB:=hid (HB.out.trans ((hB).mono HB.out.size))
  clear hB
  obtain⟨m0,m1,m2,m3,m4,m5,m6,m7,_⟩:=Bv.out.cells8
  obtain⟨n0,n1,n2,n3,n4,n5,n6,n7,_⟩:=Bu.out.cells8
  go_wp2_with fail
  refine(H7.out _ s16 p16 k16 c16 q16 l16 d16 sz16 pz16 kz16 cz16 qz16 lz16 dz16 x16 y16 s15 p15 k15 c15 q15 l15 d15 sz15 pz15 kz15 cz15 qz15 lz15 dz15 x15 y15 Gv_.out Gu_.out).mono ?_
  rintro e w8 ⟨rfl,hB⟩
  clear m0 m1 m2 m3 m4 m5 m6 m7 n0 n1 n2 n3 n4 n5 n6 n7
  replace Ba:=hid (Ba.out.below hB)
  replace Bb:=hid (Bb.out.below hB)
  replace Bs:=hid (Bs.out.below hB)
  replace Gs_:=hid (Gs_.out.below hB)
  replace Bt:=hid (Bt.out.below hB)
  replace Gt_:=hid (Gt_.out.below hB)
  replace Bu:=hid (Bu.out.below hB)
  replace Gu_:=hid (Gu_.out.below hB)
  replace Bv:=hid (Bv.out.below hB)
  replace Gv_:=hid (Gv_.out.below hB)
  replace HB:=hid (HB.out.trans ((hB).mono HB.out.size))
  clear hB
  go_wp2_with fail
  refine(H8.out _ HB.out).mono ?_
  rintro e w9 ⟨rfl,hB⟩
  replace Ba:=hid (Ba.out.below hB)
  replace Bb:=hid (Bb.out.below hB)
  replace Bs:=hid (Bs.out.below hB)
  replace Gs_:=hid (Gs_.out.below hB)
  replace Bt:=hid (Bt.out.below hB)
  replace Gt_:=hid (Gt_.out.below hB)
  replace Bu:=hid (Bu.out.below hB)
  replace Gu_:=hid (Gu_.out.below hB)
  replace Bv:=hid (Bv.out.below hB)
  replace Gv_:=hid (Gv_.out.below hB)
  replace HB:=hid (HB.out.trans ((hB).mono HB.out.size))
  clear hB
  go_wp2_with fail
  go_ret
  exact⟨rfl,HB.out⟩
theorem IntervalOpposite_ok(s1 p1 k1 c1 q1 l1 d1 sz1 pz1 kz1 cz1 qz1 lz1 dz1 x1 y1 s2 p2 k2 c2 q2 l2 d2 sz2 pz2 kz2 cz2 qz2 lz2 dz2 x2 y2 p)(cs ca cm:Int)(V V2 VA VM:Ti)(w:World)(hcs:cs=0)
  (h0:∀W,Bw w W→Calls Tryz.prog 13 #[.agg #[.bool s1,.slice p1 k1 c1,.slice q1 l1 d1,.bool sz1,.slice pz1 kz1 cz1,.slice qz1 lz1 dz1,.bool x1,.bool y1],.agg #[.bool s2,.slice p2 k2 c2,.slice q2 l2 d2,.bool sz2,.slice pz2 kz2 cz2,.slice qz2 lz2 dz2,.bool x2,.bool y2],.int .i64 p] W (GT W cs V))(h1:∀W,Bw w W→Calls Tryz.prog 13 #[.agg #[.bool s2,.slice p2 k2 c2,.slice q2 l2 d2,.bool sz2,.slice pz2 kz2 cz2,.slice qz2 lz2 dz2,.bool x2,.bool y2],.agg #[.bool s1,.slice p1 k1 c1,.slice q1 l1 d1,.bool sz1,.slice pz1 kz1 cz1,.slice qz1 lz1 dz1,.bool x1,.bool y1],.int .i64 p] W (GT W cs V2))(h2:∀W,Bw w W→Calls Tryz.prog 15 #[.agg #[.bool s1,.slice p1 k1 c1,.slice q1 l1 d1,.bool sz1,.slice pz1 kz1 cz1,.slice qz1 lz1 dz1,.bool x1,.bool y1],.agg #[.bool s2,.slice p2 k2 c2,.slice q2 l2 d2,.bool sz2,.slice pz2 kz2 cz2,.slice qz2 lz2 dz2,.bool x2,.bool y2],.int .i64 p] W (GT W ca VA))(h3:∀W,Bw w W→Calls Tryz.prog 15 #[.agg #[.bool s2,.slice p2 k2 c2,.slice q2 l2 d2,.bool sz2,.slice pz2 kz2 cz2,.slice qz2 lz2 dz2,.bool x2,.bool y2],.agg #[.bool s1,.slice p1 k1 c1,.slice q1 l1 d1,.bool sz1,.slice pz1 kz1 cz1,.slice qz1 lz1 dz1,.bool x1,.bool y1],.int .i64 p] W (GT W ca VA))(h4:∀W,Bw w W→Calls Tryz.prog 7 #[.agg #[.bool s1,.slice p1 k1 c1,.slice q1 l1 d1,.bool sz1,.slice pz1 kz1 cz1,.slice qz1 lz1 dz1,.bool x1,.bool y1],.agg #[.bool s2,.slice p2 k2 c2,.slice q2 l2 d2,.bool sz2,.slice pz2 kz2 cz2,.slice qz2 lz2 dz2,.bool x2,.bool y2],.int .i64 p] W (GT W cm VM))(h5:∀W,Bw w W→Calls Tryz.prog 7 #[.agg #[.bool s2,.slice p2 k2 c2,.slice q2 l2 d2,.bool sz2,.slice pz2 kz2 cz2,.slice qz2 lz2 dz2,.bool x2,.bool y2],.agg #[.bool s1,.slice p1 k1 c1,.slice q1 l1 d1,.bool sz1,.slice pz1 kz1 cz1,.slice qz1 lz1 dz1,.bool x1,.bool y1],.int .i64 p] W (GT W cm VM))(h6:∀W s5 p5 k5 c5 q5 l5 d5 sz5 pz5 kz5 cz5 qz5 lz5 dz5 x5 y5 s6 p6 k6 c6 q6 l6 d6 sz6 pz6 kz6 cz6 qz6 lz6 dz6 x6 y6,GRep W (.agg #[.bool s5,.slice p5 k5 c5,.slice q5 l5 d5,.bool sz5,.slice pz5 kz5 cz5,.slice qz5 lz5 dz5,.bool x5,.bool y5]) VA→GRep W (.agg #[.bool s6,.slice p6 k6 c6,.slice q6 l6 d6,.bool sz6,.slice pz6 kz6 cz6,.slice qz6 lz6 dz6,.bool x6,.bool y6]) VA→Calls Tryz.prog 11 #[.agg #[.bool s5,.slice p5 k5 c5,.slice q5 l5 d5,.bool sz5,.slice pz5 kz5 cz5,.slice qz5 lz5 dz5,.bool x5,.bool y5],.int .i64 ca,.agg #[.bool s6,.slice p6 k6 c6,.slice q6 l6 d6,.bool sz6,.slice pz6 kz6 cz6,.slice qz6 lz6 dz6,.bool x6,.bool y6],.int .i64 ca] W fun e w'=>e=.returned (.bool true)∧Bw W w')(h7:∀W s5 p5 k5 c5 q5 l5 d5 sz5 pz5 kz5 cz5 qz5 lz5 dz5 x5 y5 s6 p6 k6 c6 q6 l6 d6 sz6 pz6 kz6 cz6 qz6 lz6 dz6 x6 y6,GRep W (.agg #[.bool s5,.slice p5 k5 c5,.slice q5 l5 d5,.bool sz5,.slice pz5 kz5 cz5,.slice qz5 lz5 dz5,.bool x5,.bool y5]) VM→GRep W (.agg #[.bool s6,.slice p6 k6 c6,.slice q6 l6 d6,.bool sz6,.slice pz6 kz6 cz6,.slice qz6 lz6 dz6,.bool x6,.bool y6]) VM→Calls Tryz.prog 11 #[.agg #[.bool s5,.slice p5 k5 c5,.slice q5 l5 d5,.bool sz5,.slice pz5 kz5 cz5,.slice qz5 lz5 dz5,.bool x5,.bool y5],.int .i64 cm,.agg #[.bool s6,.slice p6 k6 c6,.slice q6 l6 d6,.bool sz6,.slice pz6 kz6 cz6,.slice qz6 lz6 dz6,.bool x6,.bool y6],.int .i64 cm] W fun e w'=>e=.returned (.bool true)∧Bw W w')(h8:∀W,Bw w W→Calls Tryz.prog 12 #[] W fun e w'=>e=.returned (.bool true)∧Bw W w')(h9:∀W s5 p5 k5 c5 q5 l5 d5 sz5 pz5 kz5 cz5 qz5 lz5 dz5 x5 y5,Bw w W→GRep W (.agg #[.bool s5,.slice p5 k5 c5,.slice q5 l5 d5,.bool sz5,.slice pz5 kz5 cz5,.slice qz5 lz5 dz5,.bool x5,.bool y5]) V→Calls Tryz.prog 14 #[.agg #[.bool s5,.slice p5 k5 c5,.slice q5 l5 d5,.bool sz5,.slice pz5 kz5 cz5,.slice qz5 lz5 dz5,.bool x5,.bool y5]] W (GT W 0 V2))(h10:∀W s5 p5 k5 c5 q5 l5 d5 sz5 pz5 kz5 cz5 qz5 lz5 dz5 x5 y5,Bw w W→GRep W (.agg #[.bool s5,.slice p5 k5 c5,.slice q5 l5 d5,.bool sz5,.slice pz5 kz5 cz5,.slice qz5 lz5 dz5,.bool x5,.bool y5]) V2→Calls Tryz.prog 14 #[.agg #[.bool s5,.slice p5 k5 c5,.slice q5 l5 d5,.bool sz5,.slice pz5 kz5 cz5,.slice qz5 lz5 dz5,.bool x5,.bool y5]] W (GT W 0 V))(h11:∀W s5 p5 k5 c5 q5 l5 d5 sz5 pz5 kz5 cz5 qz5 lz5 dz5 x5 y5 s6 p6 k6 c6 q6 l6 d6 sz6 pz6 kz6 cz6 qz6 lz6 dz6 x6 y6,GRep W (.agg #[.bool s5,.slice p5 k5 c5,.slice q5 l5 d5,.bool sz5,.slice pz5 kz5 cz5,.slice qz5 lz5 dz5,.bool x5,.bool y5]) V→GRep W (.agg #[.bool s6,.slice p6 k6 c6,.slice q6 l6 d6,.bool sz6,.slice pz6 kz6 cz6,.slice qz6 lz6 dz6,.bool x6,.bool y6]) V→Calls Tryz.prog 11 #[.agg #[.bool s5,.slice p5 k5 c5,.slice q5 l5 d5,.bool sz5,.slice pz5 kz5 cz5,.slice qz5 lz5 dz5,.bool x5,.bool y5],.int .i64 0,.agg #[.bool s6,.slice p6 k6 c6,.slice q6 l6 d6,.bool sz6,.slice pz6 kz6 cz6,.slice qz6 lz6 dz6,.bool x6,.bool y6],.int .i64 0] W fun e w'=>e=.returned (.bool true)∧Bw W w')(h12:∀W s5 p5 k5 c5 q5 l5 d5 sz5 pz5 kz5 cz5 qz5 lz5 dz5 x5 y5 s6 p6 k6 c6 q6 l6 d6 sz6 pz6 kz6 cz6 qz6 lz6 dz6 x6 y6,GRep W (.agg #[.bool s5,.slice p5 k5 c5,.slice q5 l5 d5,.bool sz5,.slice pz5 kz5 cz5,.slice qz5 lz5 dz5,.bool x5,.bool y5]) V2→GRep W (.agg #[.bool s6,.slice p6 k6 c6,.slice q6 l6 d6,.bool sz6,.slice pz6 kz6 cz6,.slice qz6 lz6 dz6,.bool x6,.bool y6]) V2→Calls Tryz.prog 11 #[.agg #[.bool s5,.slice p5 k5 c5,.slice q5 l5 d5,.bool sz5,.slice pz5 kz5 cz5,.slice qz5 lz5 dz5,.bool x5,.bool y5],.int .i64 0,.agg #[.bool s6,.slice p6 k6 c6,.slice q6 l6 d6,.bool sz6,.slice pz6 kz6 cz6,.slice qz6 lz6 dz6,.bool x6,.bool y6],.int .i64 0] W fun e w'=>e=.returned (.bool true)∧Bw W w'):
  Calls Tryz.prog 4 #[.agg #[.bool s1,.slice p1 k1 c1,.slice q1 l1 d1,.bool sz1,.slice pz1 kz1 cz1,.slice qz1 lz1 dz1,.bool x1,.bool y1],.agg #[.bool s2,.slice p2 k2 c2,.slice q2 l2 d2,.bool sz2,.slice pz2 kz2 cz2,.slice qz2 lz2 dz2,.bool x2,.bool y2],.int .i64 p] w fun e w'=>e=.returned (.bool true)∧Bw w w':=by
 have H0:=hid h0;have H1:=hid h1;have H2:=hid h2;have H3:=hid h3;have H4:=hid h4;have H5:=hid h5;have H6:=hid h6;have H7:=hid h7;have H8:=hid h8;have H9:=hid h9;have H10:=hid h10;have H11:=hid h11;have H12:=hid h12;clear h0 h1 h2 h3 h4 h5 h6 h7 h8 h9 h10 h11 h12;subst hcs;go_enter Tryz.func4,Tryz.ntmps4;go_wp2_with fail;generalize hA:World.alloc _ _=W0;have HV:=hid (pre2_o hA nd8 nd8);clear hA;have HB:=hid HV.out.2.2;have Ba:=hid HV.out.1;have Bb:=hid HV.out.2.1;clear HV;refine(H0.out _ HB.out).mono ?_;rintro e w1 ⟨s11,p11,k11,c11,q11,l11,d11,sz11,pz11,kz11,cz11,qz11,lz11,dz11,x11,y11,rfl,hG,hB⟩;have zw1_a:=(Ba.out.below hB).lt;have zw1_b:=(Bb.out.below hB).lt;go_upto_region 2 with fail;have HX:=hid (pre1 w1 [.bool s11,.slice p11 k11 c11,.slice q11 l11 d11,.bool sz11,.slice pz11 kz11 cz11,.slice qz11 lz11 dz11,.bool x11,.bool y11] 26 nd8);generalize w1.alloc (.cells #[.bool s11,.slice p11 k11 c11,.slice q11 l11 d11,.bool sz11,.slice pz11 kz11 cz11,.slice qz11 lz11 dz11,.bool x11,.bool y11] 26)=W11 at *;have hC:=hB.trans (HX.out.2.mono hB.size);replace Ba:=hid (Ba.out.below hC);replace Bb:=hid (Bb.out.below hC);replace HB:=hid (HB.out.trans ((hC).mono HB.out.size));have Bc:=hid HX.out.1;have Gc_:=hid (GRep.below hG.out HX.out.2);clear hG hB hC HX zw1_a zw1_b;obtain⟨m0,m1,m2,m3,m4,m5,m6,m7,_⟩:=Ba.out.cells8;obtain⟨n0,n1,n2,n3,n4,n5,n6,n7,_⟩:=Bb.out.cells8;go_wp2_with fail;refine(H1.out _ HB.out).mono ?_;rintro e w2 ⟨s12,p12,k12,c12,q12,l12,d12,sz12,pz12,kz12,cz12,qz12,lz12,dz12,x12,y12,rfl,hG,hB⟩;clear m0 m1 m2 m3 m4 m5 m6 m7 n0 n1 n2 n3 n4 n5 n6 n7;have zw2_a:=(Ba.out.below hB).lt;have zw2_b:=(Bb.out.below hB).lt;have zw2_c:=(Bc.out.below hB).lt;go_upto_region 3 with fail;have HX:=hid (pre1 w2 [.bool s12,.slice p12 k12 c12,.slice q12 l12 d12,.bool sz12,.slice pz12 kz12 cz12,.slice qz12 lz12 dz12,.bool x12,.bool y12] 26 nd8);generalize w2.alloc (.cells #[.bool s12,.slice p12 k12 c12,.slice q12 l12 d12,.bool sz12,.slice pz12 kz12 cz12,.slice qz12 lz12 dz12,.bool x12,.bool y12] 26)=W12 at *;have hC:=hB.trans (HX.out.2.mono hB.size);replace Ba:=hid (Ba.out.below hC);replace Bb:=hid (Bb.out.below hC);replace Bc:=hid (Bc.out.below hC);replace Gc_:=hid (Gc_.out.below hC);replace HB:=hid (HB.out.trans ((hC).mono HB.out.size));have Bd:=hid HX.out.1;have Gd_:=hid (GRep.below hG.out HX.out.2);clear hG hB hC HX zw2_a zw2_b zw2_c;obtain⟨m0,m1,m2,m3,m4,m5,m6,m7,_⟩:=Bc.out.cells8;go_wp2_with fail;refine(H9.out _ s11 p11 k11 c11 q11 l11 d11 sz11 pz11 kz11 cz11 qz11 lz11 dz11 x11 y11 HB.out Gc_.out).mono ?_;rintro e w3 ⟨s13,p13,k13,c13,q13,l13,d13,sz13,pz13,kz13,cz13,qz13,lz13,dz13,x13,y13,rfl,hG,hB⟩;clear m0 m1 m2 m3 m4 m5 m6 m7;have zw3_a:=(Ba.out.below hB).lt;have zw3_b:=(Bb.out.below hB).lt;have zw3_c:=(Bc.out.below hB).lt;have zw3_d:=(Bd.out.below hB).lt;go_upto_region 7 with fail;have HX:=hid (pre1 w3 [.bool s13,.slice p13 k13 c13,.slice q13 l13 d13,.bool sz13,.slice pz13 kz13 cz13,.slice qz13 lz13 dz13,.bool x13,.bool y13] 26 nd8);generalize w3.alloc (.cells #[.bool s13,.slice p13 k13 c13,.slice q13 l13 d13,.bool sz13,.slice pz13 kz13 cz13,.slice qz13 lz13 dz13,.bool x13,.bool y13] 26)=W13 at *;have hC:=hB.trans (HX.out.2.mono hB.size);replace Ba:=hid (Ba.out.below hC);replace Bb:=hid (Bb.out.below hC);replace Bc:=hid (Bc.out.below hC);replace Gc_:=hid (Gc_.out.below hC);replace Bd:=hid (Bd.out.below hC);replace Gd_:=hid (Gd_.out.below hC);replace HB:=hid (HB.out.trans ((hC).mono HB.out.size));have Bn:=hid HX.out.1;have Gn_:=hid (GRep.below hG.out HX.out.2);clear hG hB hC HX zw3_a zw3_b zw3_c zw3_d;obtain⟨m0,m1,m2,m3,m4,m5,m6,m7,_⟩:=Bn.out.cells8;go_wp2_with fail;refine(H10.out _ s13 p13 k13 c13 q13 l13 d13 sz13 pz13 kz13 cz13 qz13 lz13 dz13 x13 y13 HB.out Gn_.out).mono ?_;rintro e w4 ⟨s14,p14,k14,c14,q14,l14,d14,sz14,pz14,kz14,cz14,qz14,lz14,dz14,x14,y14,rfl,hG,hB⟩;clear m0 m1 m2 m3 m4 m5 m6 m7;have zw4_a:=(Ba.out.below hB).lt;have zw4_b:=(Bb.out.below hB).lt;have zw4_c:=(Bc.out.below hB).lt;have zw4_d:=(Bd.out.below hB).lt;have zw4_n:=(Bn.out.below hB).lt;go_upto_region 8 with fail;have HX:=hid (pre1 w4 [.bool s14,.slice p14 k14 c14,.slice q14 l14 d14,.bool sz14,.slice pz14 kz14 cz14,.slice qz14 lz14 dz14,.bool x14,.bool y14] 26 nd8);generalize w4.alloc (.cells #[.bool s14,.slice p14 k14 c14,.slice q14 l14 d14,.bool sz14,.slice pz14 kz14 cz14,.slice qz14 lz14 dz14,.bool x14,.bool y14] 26)=W14 at *;have hC:=hB.trans (HX.out.2.mono hB.size);replace Ba:=hid (Ba.out.below hC);replace Bb:=hid (Bb.out.below hC);replace Bc:=hid (Bc.out.below hC);replace Gc_:=hid (Gc_.out.below hC);replace Bd:=hid (Bd.out.below hC);replace Gd_:=hid (Gd_.out.below hC);replace Bn:=hid (Bn.out.below hC);replace Gn_:=hid (Gn_.out.below hC);replace HB:=hid (HB.out.trans ((hC).mono HB.out.size));have Bm:=hid HX.out.1;have Gm_:=hid (GRep.below hG.out HX.out.2);clear hG hB hC HX zw4_a zw4_b zw4_c zw4_d zw4_n;obtain⟨m0,m1,m2,m3,m4,m5,m6,m7,_⟩:=Bn.out.cells8;obtain⟨n0,n1,n2,n3,n4,n5,n6,n7,_⟩:=Bd.out.cells8;go_wp2_with fail;refine(H12.out _ s13 p13 k13 c13 q13 l13 d13 sz13 pz13 kz13 cz13 qz13 lz13 dz13 x13 y13 s12 p12 k12 c12 q12 l12 d12 sz12 pz12 kz12 cz12 qz12 lz12 dz12 x12 y12 Gn_.out Gd_.out).mono ?_;rintro e w5 ⟨rfl,hB⟩;clear m0 m1 m2 m3 m4 m5 m6 m7 n0 n1 n2 n3 n4 n5 n6 n7;replace Ba:=hid (Ba.out.below hB);replace Bb:=hid (Bb.out.below hB);replace Bc:=hid (Bc.out.below hB);replace Gc_:=hid (Gc_.out.below hB);replace Bd:=hid (Bd.out.below hB);replace Gd_:=hid (Gd_.out.below hB);replace Bn:=hid (Bn.out.below hB);replace Gn_:=hid (Gn_.out.below hB);replace Bm:=hid (Bm.out.below hB);replace Gm_:=hid (Gm_.out.below hB);replace HB:=hid (HB.out.trans ((hB).mono HB.out.size));clear hB;obtain⟨m0,m1,m2,m3,m4,m5,m6,m7,_⟩:=Bm.out.cells8;obtain⟨n0,n1,n2,n3,n4,n5,n6,n7,_⟩:=Bc.out.cells8;go_wp2_with fail;refine(H11.out _ s14 p14 k14 c14 q14 l14 d14 sz14 pz14 kz14 cz14 qz14 lz14 dz14 x14 y14 s11 p11 k11 c11 q11 l11 d11 sz11 pz11 kz11 cz11 qz11 lz11 dz11 x11 y11 Gm_.out Gc_.out).mono ?_;rintro e w6 ⟨rfl,hB⟩;clear m0 m1 m2 m3 m4 m5 m6 m7 n0 n1 n2 n3 n4 n5 n6 n7;replace Ba:=hid (Ba.out.below hB);replace Bb:=hid (Bb.out.below hB);replace Bc:=hid (Bc.out.below hB);replace Gc_:=hid (Gc_.out.below hB);replace Bd:=hid (Bd.out.below hB);replace Gd_:=hid (Gd_.out.below hB);replace Bn:=hid (Bn.out.below hB);replace Gn_:=hid (Gn_.out.below hB);replace Bm:=hid (Bm.out.below hB);replace Gm_:=hid (Gm_.out.below hB);replace HB:=hid (HB.out.trans ((hB).mono HB.out.size));clear hB;clear Bn Gn_;clear Bm Gm_;clear Bc Gc_;clear Bd Gd_;obtain⟨m0,m1,m2,m3,m4,m5,m6,m7,_⟩:=Ba.out.cells8;obtain⟨n0,n1,n2,n3,n4,n5,n6,n7,_⟩:=Bb.out.cells8;go_wp2_with fail;refine(H2.out _ HB.out).mono ?_;rintro e w7 ⟨s15,p15,k15,c15,q15,l15,d15,sz15,pz15,kz15,cz15,qz15,lz15,dz15,x15,y15,rfl,hG,hB⟩;clear m0 m1 m2 m3 m4 m5 m6 m7 n0 n1 n2 n3 n4 n5 n6 n7;have zw7_a:=(Ba.out.below hB).lt;have zw7_b:=(Bb.out.below hB).lt;go_upto_region 11 with fail;have HX:=hid (pre1 w7 [.bool s15,.slice p15 k15 c15,.slice q15 l15 d15,.bool sz15,.slice pz15 kz15 cz15,.slice qz15 lz15 dz15,.bool x15,.bool y15] 26 nd8);generalize w7.alloc (.cells #[.bool s15,.slice p15 k15 c15,.slice q15 l15 d15,.bool sz15,.slice pz15 kz15 cz15,.slice qz15 lz15 dz15,.bool x15,.bool y15] 26)=W15 at *;have hC:=hB.trans (HX.out.2.mono hB.size);replace Ba:=hid (Ba.out.below hC);replace Bb:=hid (Bb.out.below hC);replace HB:=hid (HB.out.trans ((hC).mono HB.out.size));have Bs:=hid HX.out.1;have Gs_:=hid (GRep.below hG.out HX.out.2);clear hG hB hC HX zw7_a zw7_b;obtain⟨m0,m1,m2,m3,m4,m5,m6,m7,_⟩:=Ba.out.cells8;obtain⟨n0,n1,n2,n3,n4,n5,n6,n7,_⟩:=Bb.out.cells8;go_wp2_with fail;refine(H3.out _ HB.out).mono ?_;rintro e w8 ⟨s16,p16,k16,c16,q16,l16,d16,sz16,pz16,kz16,cz16,qz16,lz16,dz16,x16,y16,rfl,hG,hB⟩;clear m0 m1 m2 m3 m4 m5 m6 m7 n0 n1 n2 n3 n4 n5 n6 n7;have zw8_a:=(Ba.out.below hB).lt;have zw8_b:=(Bb.out.below hB).lt;have zw8_s:=(Bs.out.below hB).lt;go_upto_region 12 with fail;have HX:=hid (pre1 w8 [.bool s16,.slice p16 k16 c16,.slice q16 l16 d16,.bool sz16,.slice pz16 kz16 cz16,.slice qz16 lz16 dz16,.bool x16,.bool y16] 26 nd8);generalize w8.alloc (.cells #[.bool s16,.slice p16 k16 c16,.slice q16 l16 d16,.bool sz16,.slice pz16 kz16 cz16,.slice qz16 lz16 dz16,.bool x16,.bool y16] 26)=W16 at *;have hC:=hB.trans (HX.out.2.mono hB.size);replace Ba:=hid (Ba.out.below hC);replace Bb:=hid (Bb.out.below hC);replace Bs:=hid (Bs.out.below hC);replace Gs_:=hid (Gs_.out.below hC);replace HB:=hid (HB.out.trans ((hC).mono HB.out.size));have Bt:=hid HX.out.1;have Gt_:=hid (GRep.below hG.out HX.out.2);clear hG hB hC HX zw8_a zw8_b zw8_s;obtain⟨m0,m1,m2,m3,m4,m5,m6,m7,_⟩:=Ba.out.cells8;obtain⟨n0,n1,n2,n3,n4,n5,n6,n7,_⟩:=Bb.out.cells8;go_wp2_with fail;refine(H4.out _ HB.out).mono ?_;rintro e w9 ⟨s17,p17,k17,c17,q17,l17,d17,sz17,pz17,kz17,cz17,qz17,lz17,dz17,x17,y17,rfl,hG,hB⟩;clear m0 m1 m2 m3 m4 m5 m6 m7 n0 n1 n2 n3 n4 n5 n6 n7;have zw9_a:=(Ba.out.below hB).lt;have zw9_b:=(Bb.out.below hB).lt;have zw9_s:=(Bs.out.below hB).lt;have zw9_t:=(Bt.out.below hB).lt;go_upto_region 13 with fail;have HX:=hid (pre1 w9 [.bool s17,.slice p17 k17 c17,.slice q17 l17 d17,.bool sz17,.slice pz17 kz17 cz17,.slice qz17 lz17 dz17,.bool x17,.bool y17] 26 nd8);generalize w9.alloc (.cells #[.bool s17,.slice p17 k17 c17,.slice q17 l17 d17,.bool sz17,.slice pz17 kz17 cz17,.slice qz17 lz17 dz17,.bool x17,.bool y17] 26)=W17 at *;have hC:=hB.trans (HX.out.2.mono hB.size);replace Ba:=hid (Ba.out.below hC);replace Bb:=hid (Bb.out.below hC);replace Bs:=hid (Bs.out.below hC);replace Gs_:=hid (Gs_.out.below hC);replace Bt:=hid (Bt.out.below hC);replace Gt_:=hid (Gt_.out.below hC);replace HB:=hid (HB.out.trans ((hC).mono HB.out.size));have Bu:=hid HX.out.1;have Gu_:=hid (GRep.below hG.out HX.out.2);clear hG hB hC HX zw9_a zw9_b zw9_s zw9_t;obtain⟨m0,m1,m2,m3,m4,m5,m6,m7,_⟩:=Ba.out.cells8;obtain⟨n0,n1,n2,n3,n4,n5,n6,n7,_⟩:=Bb.out.cells8;go_wp2_with fail;refine(H5.out _ HB.out).mono ?_;rintro e w10 ⟨s18,p18,k18,c18,q18,l18,d18,sz18,pz18,kz18,cz18,qz18,lz18,dz18,x18,y18,rfl,hG,hB⟩;clear m0 m1 m2 m3 m4 m5 m6 m7 n0 n1 n2 n3 n4 n5 n6 n7;have zw10_a:=(Ba.out.below hB).lt;have zw10_b:=(Bb.out.below hB).lt;have zw10_s:=(Bs.out.below hB).lt;have zw10_t:=(Bt.out.below hB).lt;have zw10_u:=(Bu.out.below hB).lt;go_upto_region 14 with fail;have HX:=hid (pre1 w10 [.bool s18,.slice p18 k18 c18,.slice q18 l18 d18,.bool sz18,.slice pz18 kz18 cz18,.slice qz18 lz18 dz18,.bool x18,.bool y18] 26 nd8);generalize w10.alloc (.cells #[.bool s18,.slice p18 k18 c18,.slice q18 l18 d18,.bool sz18,.slice pz18 kz18 cz18,.slice qz18 lz18 dz18,.bool x18,.bool y18] 26)=W18 at *;have hC:=hB.trans (HX.out.2.mono hB.size);replace Ba:=hid (Ba.out.below hC);replace Bb:=hid (Bb.out.below hC);replace Bs:=hid (Bs.out.below hC);replace Gs_:=hid (Gs_.out.below hC);replace Bt:=hid (Bt.out.below hC);replace Gt_:=hid (Gt_.out.below hC);replace Bu:=hid (Bu.out.below hC);replace Gu_:=hid (Gu_.out.below hC);replace HB:=hid (HB.out.trans ((hC).mono HB.out.size));have Bv:=hid HX.out.1;have Gv_:=hid (GRep.below hG.out HX.out.2);clear hG hB hC HX zw10_a zw10_b zw10_s zw10_t zw10_u;obtain⟨m0,m1,m2,m3,m4,m5,m6,m7,_⟩:=Bt.out.cells8;obtain⟨n0,n1,n2,n3,n4,n5,n6,n7,_⟩:=Bs.out.cells8;go_wp2_with fail;refine(H6.out _ s16 p16 k16 c16 q16 l16 d16 sz16 pz16 kz16 cz16 qz16 lz16 dz16 x16 y16 s15 p15 k15 c15 q15 l15 d15 sz15 pz15 kz15 cz15 qz15 lz15 dz15 x15 y15 Gt_.out Gs_.out).mono ?_;rintro e w11 ⟨rfl,hB⟩;clear m0 m1 m2 m3 m4 m5 m6 m7 n0 n1 n2 n3 n4 n5 n6 n7;replace Ba:=hid (Ba.out.below hB);replace Bb:=hid (Bb.out.below hB);replace Bs:=hid (Bs.out.below hB);replace Gs_:=hid (Gs_.out.below hB);replace Bt:=hid (Bt.out.below hB);replace Gt_:=hid (Gt_.out.below hB);replace Bu:=hid (Bu.out.below hB);replace Gu_:=hid (Gu_.out.below hB);replace Bv:=hid (Bv.out.below hB);replace Gv_:=hid (Gv_.out.below hB);replace HB:=hid (HB.out.trans ((hB).mono HB.out.size));clear hB;obtain⟨m0,m1,m2,m3,m4,m5,m6,m7,_⟩:=Bv.out.cells8;obtain⟨n0,n1,n2,n3,n4,n5,n6,n7,_⟩:=Bu.out.cells8;go_wp2_with fail;refine(H7.out _ s18 p18 k18 c18 q18 l18 d18 sz18 pz18 kz18 cz18 qz18 lz18 dz18 x18 y18 s17 p17 k17 c17 q17 l17 d17 sz17 pz17 kz17 cz17 qz17 lz17 dz17 x17 y17 Gv_.out Gu_.out).mono ?_;rintro e w12 ⟨rfl,hB⟩;clear m0 m1 m2 m3 m4 m5 m6 m7 n0 n1 n2 n3 n4 n5 n6 n7;replace Ba:=hid (Ba.out.below hB);replace Bb:=hid (Bb.out.below hB);replace Bs:=hid (Bs.out.below hB);replace Gs_:=hid (Gs_.out.below hB);replace Bt:=hid (Bt.out.below hB);replace Gt_:=hid (Gt_.out.below hB);replace Bu:=hid (Bu.out.below hB);replace Gu_:=hid (Gu_.out.below hB);replace Bv:=hid (Bv.out.below hB);replace Gv_:=hid (Gv_.out.below hB);replace HB:=hid (HB.out.trans ((hB).mono HB.out.size));clear hB;go_wp2_with fail;refine(H8.out _ HB.out).mono ?_;rintro e w13 ⟨rfl,hB⟩;replace Ba:=hid (Ba.out.below hB);replace Bb:=hid (Bb.out.below hB);replace Bs:=hid (Bs.out.below hB);replace Gs_:=hid (Gs_.out.below hB);replace Bt:=hid (Bt.out.below hB);replace Gt_:=hid (Gt_.out.below hB);replace Bu:=hid (Bu.out.below hB);replace Gu_:=hid (Gu_.out.below hB);replace Bv:=hid (Bv.out.below hB);replace Gv_:=hid (Gv_.out.below hB);replace HB:=hid (HB.out.trans ((hB).mono HB.out.size));clear hB;go_wp2_with fail
 go_ret
 exact⟨rfl,HB.out⟩
theorem rcode_cases(p:Int)(f:St→St→St)(i j:It):rcode p f i j=0∨rcode p f i j=1∨rcode p f i j=2:=by
 unfold rcode b2code
 split
 ·exact .inr (.inl rfl)
 ·split
  ·split
   ·exact .inl rfl
   ·split
    ·exact .inl rfl
    ·split
     ·exact .inr (.inl rfl)
     ·exact .inl rfl
  ·exact .inr (.inr rfl)
theorem splus_srd{a b a' b':Tq}{x y x' y':Bool}(h:(srd (a,b,x,y)).2.2=false)(h':(srd (a',b',x',y')).2.2=false):splus (srd (a',b',x',y')) (srd (a,b,x,y))=splus (srd (a,b,x,y)) (srd (a',b',x',y')):=by
 rw[srd_mk h,srd_mk h'];unfold splus
 have e1:eplus (mkS (fr a') (fr b') x' y').1 (mkS (fr a) (fr b) x y).1=eplus (mkS (fr a) (fr b) x y).1 (mkS (fr a') (fr b') x' y').1:=by
  refine eplus_comm ?_
  cases x<;>cases x'
  ·exact .inl rfl
  ·exact .inr (.inl rfl)
  ·exact .inl rfl
  ·exact .inr (.inr rfl)
 have e2:eplus (mkS (fr a') (fr b') x' y').2.1 (mkS (fr a) (fr b) x y).2.1=eplus (mkS (fr a) (fr b) x y).2.1 (mkS (fr a') (fr b') x' y').2.1:=by
  refine eplus_comm ?_
  cases y<;>cases y'
  ·exact .inl rfl
  ·exact .inr (.inl rfl)
  ·exact .inl rfl
  ·exact .inr (.inr rfl)
 rw[e1,e2]
theorem stm_srd{a b a' b':Tq}{x y x' y':Bool}(h:(srd (a,b,x,y)).2.2=false)(h':(srd (a',b',x',y')).2.2=false):stm (srd (a',b',x',y')) (srd (a,b,x,y))=stm (srd (a,b,x,y)) (srd (a',b',x',y')):=by
 rw[srd_mk h,srd_mk h'];exact stm_comm (mkS_sf (srd_ord h)) (mkS_sf (srd_ord h'))
theorem neg_res(s5 p5 k5 c5 q5 l5 d5 sz5 pz5 kz5 cz5 qz5 lz5 dz5 x5 y5){r:Jt}(hr:JGood r)(W:World)(h:GRep W (.agg #[.bool s5,.slice p5 k5 c5,.slice q5 l5 d5,.bool sz5,.slice pz5 kz5 cz5,.slice qz5 lz5 dz5,.bool x5,.bool y5]) (japi r))(ht:TabOk W):Calls Tryz.prog 14 #[.agg #[.bool s5,.slice p5 k5 c5,.slice q5 l5 d5,.bool sz5,.slice pz5 kz5 cz5,.slice qz5 lz5 dz5,.bool x5,.bool y5]] W (GT W 0 (japi (jminus r))):=by
 obtain⟨h1,h2,hx,hy⟩:=GRep.parts s5 p5 k5 c5 q5 l5 d5 sz5 pz5 kz5 cz5 qz5 lz5 dz5 x5 y5 h;have k:=iNeg_any s5 p5 k5 c5 q5 l5 d5 sz5 pz5 kz5 cz5 qz5 lz5 dz5 x5 y5 (japi r).1 (japi r).2.1 W (hr.ends.1.nrep h1) (hr.ends.2.nrep h2) ht
 have e:((japi r).1,(japi r).2.1,x5,y5)=japi r:=by rw[hx,hy]
 rw[e,(neg_api hr).1,(neg_api hr).2] at k;exact k
theorem IntervalOpposite_iv(s1 p1 k1 c1 q1 l1 d1 sz1 pz1 kz1 cz1 qz1 lz1 dz1 x1 y1 s2 p2 k2 c2 q2 l2 d2 sz2 pz2 kz2 cz2 qz2 lz2 dz2 x2 y2 p)(a b a' b':Tq)(w:World)(ha:NRep w (.agg #[.bool s1,.slice p1 k1 c1,.slice q1 l1 d1]) a)(hb:NRep w (.agg #[.bool sz1,.slice pz1 kz1 cz1,.slice qz1 lz1 dz1]) b)(ha':NRep w (.agg #[.bool s2,.slice p2 k2 c2,.slice q2 l2 d2]) a')(hb':NRep w (.agg #[.bool sz2,.slice pz2 kz2 cz2,.slice qz2 lz2 dz2]) b')(ht:TabOk w):
  Calls Tryz.prog 4 #[.agg #[.bool s1,.slice p1 k1 c1,.slice q1 l1 d1,.bool sz1,.slice pz1 kz1 cz1,.slice qz1 lz1 dz1,.bool x1,.bool y1],.agg #[.bool s2,.slice p2 k2 c2,.slice q2 l2 d2,.bool sz2,.slice pz2 kz2 cz2,.slice qz2 lz2 dz2,.bool x2,.bool y2],.int .i64 p] w fun e w'=>e=.returned (.bool true)∧Bw w w':=by
 have hT:=sub_turn p a b a' b' x1 y1 x2 y2;have tA:=op_turn (f:=splus) p (a,b,x1,y1) (a',b',x2,y2) splus_srd;have tM:=op_turn (f:=stm) p (a,b,x1,y1) (a',b',x2,y2) stm_srd
 have h0:=fun (W:World) (hW:Bw w W)=>iSub_any s1 p1 k1 c1 q1 l1 d1 sz1 pz1 kz1 cz1 qz1 lz1 dz1 x1 y1 s2 p2 k2 c2 q2 l2 d2 sz2 pz2 kz2 cz2 qz2 lz2 dz2 x2 y2 p a b a' b' W (ha.below hW) (hb.below hW) (ha'.below hW) (hb'.below hW) (ht.below hW)
 have h1:=fun (W:World) (hW:Bw w W)=>iSub_any s2 p2 k2 c2 q2 l2 d2 sz2 pz2 kz2 cz2 qz2 lz2 dz2 x2 y2 s1 p1 k1 c1 q1 l1 d1 sz1 pz1 kz1 cz1 qz1 lz1 dz1 x1 y1 p a' b' a b W (ha'.below hW) (hb'.below hW) (ha.below hW) (hb.below hW) (ht.below hW)
 have h2:=fun (W:World) (hW:Bw w W)=>iAdd_any s1 p1 k1 c1 q1 l1 d1 sz1 pz1 kz1 cz1 qz1 lz1 dz1 x1 y1 s2 p2 k2 c2 q2 l2 d2 sz2 pz2 kz2 cz2 qz2 lz2 dz2 x2 y2 p a b a' b' W (ha.below hW) (hb.below hW) (ha'.below hW) (hb'.below hW) (ht.below hW)
 have h3:=fun (W:World) (hW:Bw w W)=>iAdd_any s2 p2 k2 c2 q2 l2 d2 sz2 pz2 kz2 cz2 qz2 lz2 dz2 x2 y2 s1 p1 k1 c1 q1 l1 d1 sz1 pz1 kz1 cz1 qz1 lz1 dz1 x1 y1 p a' b' a b W (ha'.below hW) (hb'.below hW) (ha.below hW) (hb.below hW) (ht.below hW)
 have h4:=fun (W:World) (hW:Bw w W)=>iMul_any s1 p1 k1 c1 q1 l1 d1 sz1 pz1 kz1 cz1 qz1 lz1 dz1 x1 y1 s2 p2 k2 c2 q2 l2 d2 sz2 pz2 kz2 cz2 qz2 lz2 dz2 x2 y2 p a b a' b' W (ha.below hW) (hb.below hW) (ha'.below hW) (hb'.below hW) (ht.below hW)
 have h5:=fun (W:World) (hW:Bw w W)=>iMul_any s2 p2 k2 c2 q2 l2 d2 sz2 pz2 kz2 cz2 qz2 lz2 dz2 x2 y2 s1 p1 k1 c1 q1 l1 d1 sz1 pz1 kz1 cz1 qz1 lz1 dz1 x1 y1 p a' b' a b W (ha'.below hW) (hb'.below hW) (ha.below hW) (hb.below hW) (ht.below hW)
 have h6:=fun (W:World) s5 p5 k5 c5 q5 l5 d5 sz5 pz5 kz5 cz5 qz5 lz5 dz5 x5 y5 s6 p6 k6 c6 q6 l6 d6 sz6 pz6 kz6 cz6 qz6 lz6 dz6 x6 y6 (h:GRep W (.agg #[.bool s5,.slice p5 k5 c5,.slice q5 l5 d5,.bool sz5,.slice pz5 kz5 cz5,.slice qz5 lz5 dz5,.bool x5,.bool y5]) (rval p splus (a,b,x1,y1) (a',b',x2,y2))) (h':GRep W (.agg #[.bool s6,.slice p6 k6 c6,.slice q6 l6 d6,.bool sz6,.slice pz6 kz6 cz6,.slice qz6 lz6 dz6,.bool x6,.bool y6]) (rval p splus (a,b,x1,y1) (a',b',x2,y2)))=>is3_any s5 p5 k5 c5 q5 l5 d5 sz5 pz5 kz5 cz5 qz5 lz5 dz5 x5 y5 s6 p6 k6 c6 q6 l6 d6 sz6 pz6 kz6 cz6 qz6 lz6 dz6 x6 y6 (rcode p splus (a,b,x1,y1) (a',b',x2,y2)) _ W (rop_ok rop_plus p) (rop_err p _ _ _) h h'
 have h7:=fun (W:World) s5 p5 k5 c5 q5 l5 d5 sz5 pz5 kz5 cz5 qz5 lz5 dz5 x5 y5 s6 p6 k6 c6 q6 l6 d6 sz6 pz6 kz6 cz6 qz6 lz6 dz6 x6 y6 (h:GRep W (.agg #[.bool s5,.slice p5 k5 c5,.slice q5 l5 d5,.bool sz5,.slice pz5 kz5 cz5,.slice qz5 lz5 dz5,.bool x5,.bool y5]) (rval p stm (a,b,x1,y1) (a',b',x2,y2))) (h':GRep W (.agg #[.bool s6,.slice p6 k6 c6,.slice q6 l6 d6,.bool sz6,.slice pz6 kz6 cz6,.slice qz6 lz6 dz6,.bool x6,.bool y6]) (rval p stm (a,b,x1,y1) (a',b',x2,y2)))=>is3_any s5 p5 k5 c5 q5 l5 d5 sz5 pz5 kz5 cz5 qz5 lz5 dz5 x5 y5 s6 p6 k6 c6 q6 l6 d6 sz6 pz6 kz6 cz6 qz6 lz6 dz6 x6 y6 (rcode p stm (a,b,x1,y1) (a',b',x2,y2)) _ W mul_good (rop_err p _ _ _) h h'
 have h8:=fun (W:World) (hW:Bw w W)=>awake3_any W (ht.below hW)
 rw[tA.1,tA.2] at h3;rw[tM.1,tM.2] at h5;rw[hT.1] at h1
 rcases rcode_cases p sminus (a,b,x1,y1) (a',b',x2,y2) with hc | hc
 ·obtain⟨r,g,e1,e2⟩:=hT.2 hc;rw[e1] at h0;rw[e2] at h1
  exact IntervalOpposite_ok s1 p1 k1 c1 q1 l1 d1 sz1 pz1 kz1 cz1 qz1 lz1 dz1 x1 y1 s2 p2 k2 c2 q2 l2 d2 sz2 pz2 kz2 cz2 qz2 lz2 dz2 x2 y2 p _ _ _ _ _ _ _ w hc h0 h1 h2 h3 h4 h5 h6 h7 h8
   (fun W s5 p5 k5 c5 q5 l5 d5 sz5 pz5 kz5 cz5 qz5 lz5 dz5 x5 y5 hW h=>neg_res s5 p5 k5 c5 q5 l5 d5 sz5 pz5 kz5 cz5 qz5 lz5 dz5 x5 y5 g W h (ht.below hW))
   (fun W s5 p5 k5 c5 q5 l5 d5 sz5 pz5 kz5 cz5 qz5 lz5 dz5 x5 y5 hW h=>by have k:=neg_res s5 p5 k5 c5 q5 l5 d5 sz5 pz5 kz5 cz5 qz5 lz5 dz5 x5 y5 g.neg W h (ht.below hW);rw[jminus_two g] at k;exact k)
   (fun W s5 p5 k5 c5 q5 l5 d5 sz5 pz5 kz5 cz5 qz5 lz5 dz5 x5 y5 s6 p6 k6 c6 q6 l6 d6 sz6 pz6 kz6 cz6 qz6 lz6 dz6 x6 y6 h h'=>is3_any s5 p5 k5 c5 q5 l5 d5 sz5 pz5 kz5 cz5 qz5 lz5 dz5 x5 y5 s6 p6 k6 c6 q6 l6 d6 sz6 pz6 kz6 cz6 qz6 lz6 dz6 x6 y6 0 _ W (fun _=>⟨r,g,rfl⟩) (fun h=>absurd rfl h) h h')
   (fun W s5 p5 k5 c5 q5 l5 d5 sz5 pz5 kz5 cz5 qz5 lz5 dz5 x5 y5 s6 p6 k6 c6 q6 l6 d6 sz6 pz6 kz6 cz6 qz6 lz6 dz6 x6 y6 h h'=>is3_any s5 p5 k5 c5 q5 l5 d5 sz5 pz5 kz5 cz5 qz5 lz5 dz5 x5 y5 s6 p6 k6 c6 q6 l6 d6 sz6 pz6 kz6 cz6 qz6 lz6 dz6 x6 y6 0 _ W (fun _=>⟨_,g.neg,rfl⟩) (fun h=>absurd rfl h) h h')
 ·exact IntervalOpposite_no s1 p1 k1 c1 q1 l1 d1 sz1 pz1 kz1 cz1 qz1 lz1 dz1 x1 y1 s2 p2 k2 c2 q2 l2 d2 sz2 pz2 kz2 cz2 qz2 lz2 dz2 x2 y2 p _ _ _ _ _ _ _ w hc h0 h1 h2 h3 h4 h5 h6 h7 h8
theorem IntervalOpposite_any(v u:Value)(i j:Ti)(p)(w:World)(ha:IRep w v i)(hb:IRep w u j)(_hlo:-9223372036854775808≤p)(_hhi:p < 9223372036854775808)(ht:TabOk w):
  Calls Tryz.prog 4 #[v,u,.int .i64 p] w fun e w'=>e=.returned (.bool true)∧Bw w w':=by
 obtain⟨s1,p1,k1,c1,q1,l1,d1,sz1,pz1,kz1,cz1,qz1,lz1,dz1,x1,y1,rfl,h1,h2,rfl,rfl⟩:=ha;obtain⟨s2,p2,k2,c2,q2,l2,d2,sz2,pz2,kz2,cz2,qz2,lz2,dz2,x2,y2,rfl,h3,h4,rfl,rfl⟩:=hb;exact IntervalOpposite_iv s1 p1 k1 c1 q1 l1 d1 sz1 pz1 kz1 cz1 qz1 lz1 dz1 _ _ s2 p2 k2 c2 q2 l2 d2 sz2 pz2 kz2 cz2 qz2 lz2 dz2 _ _ p i.1 i.2.1 j.1 j.2.1 w h1 h2 h3 h4 ht
end Go.Proofs.YteblinkehldghaaGreatDoor
