/- Pow of the program. -/
import Derived.Test.YteblinkehldghaaGreatDoorAbsIQ
import Derived.Test.YteblinkehldghaaGreatDoorCanEQ
import Derived.Test.YteblinkehldghaaGreatDoorHasU
import Derived.Test.YteblinkehldghaaGreatDoorPwiIQ
import Derived.Test.YteblinkehldghaaGreatDoorAbsI
set_option maxHeartbeats 4000000
set_option maxRecDepth 100000
namespace Go.Proofs.YteblinkehldghaaGreatDoor
open Go.RowKit Dg
open And renaming intro→Ai
theorem downB_any(i1 s1 p1 k1 c1 q1 l1 d1)(x:Int×Tq)(pr:Nat)(w:World)(h:ERep w (.agg #[.int .i64 i1,.bool s1,.slice p1 k1 c1,.slice q1 l1 d1]) x)(hx:EOk 100000 x)(hp:pr≤1000000)(ht:TabOk w):
  Calls Tryz.prog 80 #[.agg #[.int .i64 i1,.bool s1,.slice p1 k1 c1,.slice q1 l1 d1],.int .i64 (pr:Int)] w (EP w (edn x pr)):=by
 have hmf:=makeFunc_run;obtain⟨hi,hF⟩:=h.frac
 have HC:Hid (∀(W:World),Bw w W→Box W (w.heap.size+1) #[.int .i64 (pr:Int)]→Calls Tryz.prog 114 #[.agg #[.int .i64 i1,.bool s1,.slice p1 k1 c1,.slice q1 l1 d1],.func (.func 118) #[] #[.pointer (some ⟨w.heap.size+1,0,none⟩)]] W (EP W (edn x pr))):=by
  refine hid fun W hW hBp=>?_
  by_cases h0:x.1=0
  ·rw[h0] at hi;subst hi;have hfr:=hx.fin h0;refine(change_fin s1 p1 k1 c1 q1 l1 d1 _ #[.pointer (some ⟨w.heap.size+1,0,none⟩)] (gdn x.2 pr) W enter_down (fun W' hW'=>downf_any s1 p1 k1 c1 q1 l1 d1 (w.heap.size+1) pr x.2 W' ((hF.below hW).below hW') hx.bn hx.bd hfr.pos hp ((ht.below hW).below hW') (hBp.below hW'))).mono ?_;rintro e w' ⟨s2,p2,k2,c2,q2,l2,d2,rfl,hF2,hB⟩;refine⟨0,s2,p2,k2,c2,q2,l2,d2,rfl,hid ?_,hB⟩;unfold edn;rw[if_pos h0];exact ERep.mk rfl hF2.out
  ·refine(change_inf i1 s1 p1 k1 c1 q1 l1 d1 _ W (by rw[hi];exact h0)).mono ?_;rintro e w' ⟨rfl,hB⟩;refine⟨i1,s1,p1,k1,c1,q1,l1,d1,rfl,hid ?_,hB⟩;unfold edn;rw[if_neg h0];exact(h.below hW).below hB
 clear h hx hp ht hi hF;obtain⟨r,hr⟩:∃r,r=edn x pr:=⟨_,rfl⟩;rw[←hr] at HC ⊢;clear hr;obtain⟨pi,hpi⟩:∃pi:Int,pi=(pr:Int):=⟨_,rfl⟩;rw[←hpi] at HC ⊢;clear hpi;go_enter Tryz.func80,Tryz.ntmps80;go_wp2_with fail;generalize hA:World.alloc _ _=W0;have HV:=hid (pre3_o hA nd4 nd1 nd4);clear hA;refine(HC.out _ HV.out.2.2.2 HV.out.2.1).mono ?_;rintro e w1 ⟨i2,s2,p2,k2,c2,q2,l2,d2,rfl,hE,hB1⟩;have HE:=hid (Ai (HV.out.2.2.1.below hB1) (HV.out.2.2.2.trans (hB1.mono HV.out.2.2.2.size)));clear hB1;obtain⟨g0,g1,g2,g3,f0,f1,f2,f3⟩:=HE.out.1.cells4;go_wp2_with fail;exact down_ret rfl (HE.out.1.stores [.int .i64 i2,.bool s2,.slice p2 k2 c2,.slice q2 l2 d2] rfl nd4) ⟨i2,s2,p2,k2,c2,q2,l2,d2,rfl,hid (ERep.stores (k:=0) (l:=[.int .i64 i2,.bool s2,.slice p2 k2 c2,.slice q2 l2 d2]) hE.out HE.out.1 nd4),Below.stores (k:=0) (l:=[.int .i64 i2,.bool s2,.slice p2 k2 c2,.slice q2 l2 d2]) HE.out.2 (by omega)⟩
theorem upB_any(i1 s1 p1 k1 c1 q1 l1 d1)(x:Int×Tq)(pr:Nat)(w:World)(h:ERep w (.agg #[.int .i64 i1,.bool s1,.slice p1 k1 c1,.slice q1 l1 d1]) x)(hx:EOk 100000 x)(hp:pr≤1000000)(ht:TabOk w):
  Calls Tryz.prog 81 #[.agg #[.int .i64 i1,.bool s1,.slice p1 k1 c1,.slice q1 l1 d1],.int .i64 (pr:Int)] w (EP w (eup x pr)):=by
 have hmf:=makeFunc_run;obtain⟨hi,hF⟩:=h.frac
 have HC:Hid (∀(W:World),Bw w W→Box W (w.heap.size+1) #[.int .i64 (pr:Int)]→Calls Tryz.prog 114 #[.agg #[.int .i64 i1,.bool s1,.slice p1 k1 c1,.slice q1 l1 d1],.func (.func 120) #[] #[.pointer (some ⟨w.heap.size+1,0,none⟩)]] W (EP W (eup x pr))):=by
  refine hid fun W hW hBp=>?_
  by_cases h0:x.1=0
  ·rw[h0] at hi;subst hi;have hfr:=hx.fin h0;refine(change_fin s1 p1 k1 c1 q1 l1 d1 _ #[.pointer (some ⟨w.heap.size+1,0,none⟩)] (gup x.2 pr) W enter_up (fun W' hW'=>upf_any s1 p1 k1 c1 q1 l1 d1 (w.heap.size+1) pr x.2 W' ((hF.below hW).below hW') hx.bn hx.bd hfr.pos hp ((ht.below hW).below hW') (hBp.below hW'))).mono ?_;rintro e w' ⟨s2,p2,k2,c2,q2,l2,d2,rfl,hF2,hB⟩;refine⟨0,s2,p2,k2,c2,q2,l2,d2,rfl,hid ?_,hB⟩;unfold eup;rw[if_pos h0];exact ERep.mk rfl hF2.out
  ·refine(change_inf i1 s1 p1 k1 c1 q1 l1 d1 _ W (by rw[hi];exact h0)).mono ?_;rintro e w' ⟨rfl,hB⟩;refine⟨i1,s1,p1,k1,c1,q1,l1,d1,rfl,hid ?_,hB⟩;unfold eup;rw[if_neg h0];exact(h.below hW).below hB
 clear h hx hp ht hi hF;obtain⟨r,hr⟩:∃r,r=eup x pr:=⟨_,rfl⟩;rw[←hr] at HC ⊢;clear hr;obtain⟨pi,hpi⟩:∃pi:Int,pi=(pr:Int):=⟨_,rfl⟩;rw[←hpi] at HC ⊢;clear hpi;go_enter Tryz.func81,Tryz.ntmps81;go_wp2_with fail;generalize hA:World.alloc _ _=W0;have HV:=hid (pre3_o hA nd4 nd1 nd4);clear hA;refine(HC.out _ HV.out.2.2.2 HV.out.2.1).mono ?_;rintro e w1 ⟨i2,s2,p2,k2,c2,q2,l2,d2,rfl,hE,hB1⟩;have HE:=hid (Ai (HV.out.2.2.1.below hB1) (HV.out.2.2.2.trans (hB1.mono HV.out.2.2.2.size)));clear hB1;obtain⟨g0,g1,g2,g3,f0,f1,f2,f3⟩:=HE.out.1.cells4;go_wp2_with fail;exact up_ret rfl (HE.out.1.stores [.int .i64 i2,.bool s2,.slice p2 k2 c2,.slice q2 l2 d2] rfl nd4) ⟨i2,s2,p2,k2,c2,q2,l2,d2,rfl,hid (ERep.stores (k:=0) (l:=[.int .i64 i2,.bool s2,.slice p2 k2 c2,.slice q2 l2 d2]) hE.out HE.out.1 nd4),Below.stores (k:=0) (l:=[.int .i64 i2,.bool s2,.slice p2 k2 c2,.slice q2 l2 d2]) HE.out.2 (by omega)⟩
theorem sroundB_any(i1 s1 p1 k1 c1 q1 l1 d1 j1 sz1 pz1 kz1 cz1 qz1 lz1 dz1 e1)(pr:Nat)(x:Ts)(w:World)(h:SRep w (.agg #[.int .i64 i1,.bool s1,.slice p1 k1 c1,.slice q1 l1 d1,.int .i64 j1,.bool sz1,.slice pz1 kz1 cz1,.slice qz1 lz1 dz1,.bool e1]) x)(hx:EOk 100000 x.1∧EOk 100000 x.2.1)(hp:pr≤1000000)(ht:TabOk w):
  Calls Tryz.prog 42 #[.agg #[.int .i64 i1,.bool s1,.slice p1 k1 c1,.slice q1 l1 d1,.int .i64 j1,.bool sz1,.slice pz1 kz1 cz1,.slice qz1 lz1 dz1,.bool e1],.int .i64 (pr:Int)] w (SP w (sround x pr)):=by
 have h1:=h.ends;have HL:=hid (fun (W:World) (hW:Bw w W)=>downB_any i1 s1 p1 k1 c1 q1 l1 d1 x.1 pr W (h1.1.below hW) hx.1 hp (ht.below hW));have HH:=hid (fun (W:World) (hW:Bw w W)=>upB_any j1 sz1 pz1 kz1 cz1 qz1 lz1 dz1 x.2.1 pr W (h1.2.1.below hW) hx.2 hp (ht.below hW));clear h hx hp ht h1;obtain⟨r,hr⟩:∃r,r=sround x pr:=⟨_,rfl⟩;obtain⟨rl,hrl⟩:∃r,r=edn x.1 pr:=⟨_,rfl⟩;obtain⟨rh,hrh⟩:∃r,r=eup x.2.1 pr:=⟨_,rfl⟩;rw[←hr];rw[←hrl] at HL;rw[←hrh] at HH;have HX:Hid (r=(rl,rh,false)):=hid (by rw[hr,hrl,hrh];rfl);clear hr hrl hrh;obtain⟨pi,hpi⟩:∃pi:Int,pi=(pr:Int):=⟨_,rfl⟩;rw[←hpi] at HL HH ⊢;clear hpi;go_enter Tryz.func42,Tryz.ntmps42;go_wp2_with fail;generalize hA:World.alloc _ _=W0;have HV:=hid (pre2_o hA nd9 nd9);clear hA;have HQ:=hid (QQ.i1 (cs:=[.int .i64 i1,.bool s1,.slice p1 k1 c1,.slice q1 l1 d1,.int .i64 j1,.bool sz1,.slice pz1 kz1 cz1,.slice qz1 lz1 dz1,.bool e1]) HV.out.1 HV.out.2.2);have HS:=hid (fun (w':World) (hb:QQ w [(w.heap.size,[.int .i64 i1,.bool s1,.slice p1 k1 c1,.slice q1 l1 d1,.int .i64 j1,.bool sz1,.slice pz1 kz1 cz1,.slice qz1 lz1 dz1,.bool e1])] w')=>hb.s_9);have HN:Hid (Apart [(w.heap.size,[.int .i64 i1,.bool s1,.slice p1 k1 c1,.slice q1 l1 d1,.int .i64 j1,.bool sz1,.slice pz1 kz1 cz1,.slice qz1 lz1 dz1,.bool e1])] (w.heap.size+1)):=hid (ne1 (by omega));have HI:Hid (w.heap.size≤w.heap.size+1):=hid (by omega)
 go_region_held3 (fun w'=>w'.cell? ⟨w.heap.size,0,none⟩=some (.int .i64 i1)∧w'.cell? ⟨w.heap.size,1,none⟩=some (.bool s1)∧w'.cell? ⟨w.heap.size,2,none⟩=some (.slice p1 k1 c1)∧w'.cell? ⟨w.heap.size,3,none⟩=some (.slice q1 l1 d1)∧w'.cell? ⟨w.heap.size,4,none⟩=some (.int .i64 j1)∧w'.cell? ⟨w.heap.size,5,none⟩=some (.bool sz1)∧w'.cell? ⟨w.heap.size,6,none⟩=some (.slice pz1 kz1 cz1)∧w'.cell? ⟨w.heap.size,7,none⟩=some (.slice qz1 lz1 dz1)∧w'.cell? ⟨w.heap.size,8,none⟩=some (.bool e1)∧Hid (QQ w [(w.heap.size,[.int .i64 i1,.bool s1,.slice p1 k1 c1,.slice q1 l1 d1,.int .i64 j1,.bool sz1,.slice pz1 kz1 cz1,.slice qz1 lz1 dz1,.bool e1])] w'))
  (first | (refine HS.out _ ?_;first | (with_reducible exact HQ.out.drew) | (with_reducible assumption) | (with_reducible refine QQ.st9 ?_ HN.out HI.out;assumption)))
  (first
   | (go_at_call 80;refine(HL.out _ HQ.out.drew.bel).mono ?_;rintro e wa ⟨i4,s4,p4,k4,c4,q4,l4,d4,rfl,hE1,hB1⟩;have hQ1:=HQ.out.drew.call hB1;have hV1:=(HV.out.2.1.drew).below hB1)
   | (go_at_call 81;refine(HH.out _ hQ1.bel).mono ?_;rintro e wb ⟨i5,s5,p5,k5,c5,q5,l5,d5,rfl,hE2,hB2⟩;have hQ2:=hQ1.call hB2;have hV2:=hV1.below hB2;obtain⟨g0,g1,g2,g3,g4,g5,g6,g7,g8,f0,f1,f2,f3,f4,f5,f6,f7,f8⟩:=hV2.cells9))
 rename_i hHeld
 clear hHeld;have HE:=hid (Ai hV2 (Ai (hE1.out.below hB2) (Ai hE2.out hQ2.bel)));clear hQ1 hQ2 hV1 hV2 hB1 hB2 hE1 hE2;go_wp2_with fail;exact sround_ret rfl (HE.out.1.stores [.int .i64 i4,.bool s4,.slice p4 k4 c4,.slice q4 l4 d4,.int .i64 i5,.bool s5,.slice p5 k5 c5,.slice q5 l5 d5,.bool false] rfl nd9) ⟨_,_,_,_,_,_,_,_,_,_,_,_,_,_,_,_,_,rfl,hid ⟨_,_,_,_,_,_,_,_,_,_,_,_,_,_,_,_,_,rfl,by rw[HX.out];exact ERep.stores (k:=0) (l:=[.int .i64 i4,.bool s4,.slice p4 k4 c4,.slice q4 l4 d4,.int .i64 i5,.bool s5,.slice p5 k5 c5,.slice q5 l5 d5,.bool false]) HE.out.2.1 HE.out.1 nd9,by rw[HX.out];exact ERep.stores (k:=0) (l:=[.int .i64 i4,.bool s4,.slice p4 k4 c4,.slice q4 l4 d4,.int .i64 i5,.bool s5,.slice p5 k5 c5,.slice q5 l5 d5,.bool false]) HE.out.2.2.1 HE.out.1 nd9,by rw[HX.out]⟩,Below.stores (k:=0) (l:=[.int .i64 i4,.bool s4,.slice p4 k4 c4,.slice q4 l4 d4,.int .i64 i5,.bool s5,.slice p5 k5 c5,.slice q5 l5 d5,.bool false]) HE.out.2.2.2 HI.out⟩
theorem IsFr.nulP:IsFr (false,0,1):=⟨false,0,1,by decide,rfl⟩
theorem gdn_100b{t:Tq}{p A:Nat}(hn:t.2.1 < W32 ^ A)(hA:A≤3000)(hp:p≤128):(gdn t p).2.1 < W32 ^ 100000∧(gdn t p).2.2 < W32 ^ 100000:=by
 have h1:t.2.1*2 ^ p < W32 ^ (A+31251):=shg_W hn (by omega);have h2:botn (t.1,t.2.1*2 ^ p,t.2.2) < W32 ^ (A+31251+1):=Nat.lt_of_le_of_lt (botn_le _) (succ_W h1);refine⟨Nat.lt_of_le_of_lt (Nat.div_le_self _ _) ?_,Nat.lt_of_le_of_lt (Nat.div_le_self _ _) (pow2_W100k hp)⟩;generalize hX:31251=X at *;generalize hB:100000=B at *;generalize hC:3000=C at *;exact lt_pow h2 (by omega)
theorem EOk.dnB{A:Nat}{x:Int×Tq}{p:Nat}(h:EOk A x)(hA:A≤3000)(hp:p≤128):EOk 100000 (edn x p):=by
 unfold edn
 by_cases h0:x.1=0
 ·rw[if_pos h0];exact⟨fun _=>gdn_fr p,fun h=>absurd rfl h,(gdn_100b h.bn hA hp).1,(gdn_100b h.bn hA hp).2⟩
 ·rw[if_neg h0];exact h.le (by omega)
theorem EOk.upB{A:Nat}{x:Int×Tq}{p:Nat}(h:EOk A x)(hA:A≤3000)(hp:p≤128):EOk 100000 (eup x p):=by
 unfold eup
 by_cases h0:x.1=0
 ·rw[if_pos h0];exact⟨fun _=>gup_fr p,fun h=>absurd rfl h,(gdn_100b (t:=fneg x.2) h.bn hA hp).1,(gdn_100b (t:=fneg x.2) h.bn hA hp).2⟩
 ·rw[if_neg h0];exact h.le (by omega)
theorem powk_W{x k:Nat}(h:x < W32 ^ 64)(hk:k≤32):x ^ k < W32 ^ 2100:=by
 by_cases h0:k=0
 ·subst h0;generalize hA:2100=A;exact Nat.one_lt_pow (by omega) (by decide)
 ·have h1:=Nat.pow_lt_pow_left h h0;rw[←Nat.pow_mul] at h1;generalize hA:2100=A;exact lt_pow h1 (by omega)
theorem EOk.pw{x:Int×Tq}{k:Nat}(h:EOk 64 x)(hk:k≤32):EOk 2100 (epw x k):=by
 unfold epw
 by_cases h0:x.1=0
 ·rw[if_pos h0];exact⟨fun _=>(h.fin h0).pow k,fun h=>absurd rfl h,powk_W h.bn hk,powk_W h.bd hk⟩
 ·rw[if_neg h0];exact h.le (by omega)
theorem EOk.iv{x:Int×Tq}(h:EOk 64 x)(hz:x.1=0→x.2.2.1≠0):EOk 64 (einv x):=by
 unfold einv
 by_cases h0:x.1=0
 ·rw[if_pos h0];exact⟨fun _=>⟨_,_,_,Nat.pos_of_ne_zero (hz h0),rfl⟩,fun h=>absurd rfl h,Nat.lt_of_le_of_lt (Nat.div_le_self _ _) h.bd,Nat.lt_of_le_of_lt (Nat.div_le_self _ _) h.bn⟩
 ·rw[if_neg h0];exact⟨fun _=>IsFr.nulP,fun h=>absurd rfl h,Nat.pow_pos W32_pos,Nat.one_lt_pow (by omega) (by decide)⟩
theorem EOk.mx{A:Nat}{x y:Int×Tq}(hx:EOk A x)(hy:EOk A y):EOk A (emax x y):=by unfold emax;split<;>assumption
def spos (x:Ts) (k:Nat):Ts:=(epw (if k % 2=0 then sabs x else x).1 k,epw (if k % 2=0 then sabs x else x).2.1 k,false)
def spow (x:Ts) (n:Int):Ts:=if n=0 then ((0,false,1,1),(0,false,1,1),false) else if n < 0 then spos (sinv x) (-n).toNat else spos x n.toNat
theorem sabs_ok{x:Ts}(hx:EOk 64 x.1∧EOk 64 x.2.1):EOk 64 (sabs x).1∧EOk 64 (sabs x).2.1:=by
 unfold sabs
 split
 ·exact hx
 ·split
  ·exact⟨hx.2.neg,hx.1.neg⟩
  ·exact⟨⟨fun _=>IsFr.nulP,fun h=>absurd rfl h,Nat.pow_pos W32_pos,Nat.one_lt_pow (by omega) (by decide)⟩,hx.1.neg.mx hx.2⟩
theorem spos_ok{x:Ts}{k:Nat}(hx:EOk 64 x.1∧EOk 64 x.2.1)(hk:k≤32):EOk 2100 (spos x k).1∧EOk 2100 (spos x k).2.1:=by
 unfold spos
 split
 ·exact⟨(sabs_ok hx).1.pw hk,(sabs_ok hx).2.pw hk⟩
 ·exact⟨hx.1.pw hk,hx.2.pw hk⟩
theorem wrap_neg{k:Nat}(hk:k≤32):IntKind.i64.wrap (-(-(k:Int)))=(k:Int):=by rw[IntKind.wrap_i64];omega
theorem tmod_ev(n:Nat):(Int.tmod (n:Int) 2 == 0)=decide (n % 2=0):=by
 have h:Int.tmod (n:Int) 2=((n % 2:Nat):Int):=by rw[Int.tmod_eq_emod_of_nonneg (by omega)];omega
 rw[h]
 have:n % 2=0∨n % 2=1:=by omega
 rcases this with h | h<;>rw[h]<;>rfl
theorem spos_any(i1 s1 p1 k1 c1 q1 l1 d1 j1 sz1 pz1 kz1 cz1 qz1 lz1 dz1 e1)(k:Nat)(x:Ts)(w:World)(h:SRep w (.agg #[.int .i64 i1,.bool s1,.slice p1 k1 c1,.slice q1 l1 d1,.int .i64 j1,.bool sz1,.slice pz1 kz1 cz1,.slice qz1 lz1 dz1,.bool e1]) x)(hx:EOk 64 x.1∧EOk 64 x.2.1)(hx2:x.2.2=false)(h1:1≤k)(hk:k≤32):
  Calls Tryz.prog 41 #[.agg #[.int .i64 i1,.bool s1,.slice p1 k1 c1,.slice q1 l1 d1,.int .i64 j1,.bool sz1,.slice pz1 kz1 cz1,.slice qz1 lz1 dz1,.bool e1],.int .i64 (k:Int)] w (SP w (spos x k)):=by
 have he:=h.ends
 have z0:((k:Int) == 0)=false:=by
  have:(k:Int)≠0:=by omega
  simpa using this
 have z1:decide ((k:Int) < 0)=false:=decide_eq_false (by omega);have z2:=tmod_ev k;unfold spos
 by_cases hev:k % 2=0
 ·rw[decide_eq_true hev] at z2;rw[if_pos hev]
  have hy:(sabs x).2.2=false:=by
   unfold sabs
   split
   ·exact hx2
   ·split<;>rfl
  have ho:=sabs_ok hx
  exact spw_even i1 s1 p1 k1 c1 q1 l1 d1 j1 sz1 pz1 kz1 cz1 qz1 lz1 dz1 e1 (k:Int) _ _ _ (hid rfl) w z0 z1 z2 (sabs x) hy (hid fun W hW=>sabs_any i1 s1 p1 k1 c1 q1 l1 d1 j1 sz1 pz1 kz1 cz1 qz1 lz1 dz1 e1 x 64 W (h.below hW) hx (by omega))
   (hid fun W i4 s4 p4 k4 c4 q4 l4 d4 hW hE=>epw_any i4 s4 p4 k4 c4 q4 l4 d4 _ k W hE (ho.1.le (by omega)) (by omega)) (hid fun W i4 s4 p4 k4 c4 q4 l4 d4 hW hE=>epw_any i4 s4 p4 k4 c4 q4 l4 d4 _ k W hE (ho.2.le (by omega)) (by omega))
 ·rw[decide_eq_false hev] at z2;rw[if_neg hev];exact spw_odd i1 s1 p1 k1 c1 q1 l1 d1 j1 sz1 pz1 kz1 cz1 qz1 lz1 dz1 e1 (k:Int) _ _ _ (hid rfl) w z0 z1 z2 (hid fun W hW=>epw_any i1 s1 p1 k1 c1 q1 l1 d1 x.1 k W (he.1.below hW) (hx.1.le (by omega)) (by omega)) (hid fun W hW=>epw_any j1 sz1 pz1 kz1 cz1 qz1 lz1 dz1 x.2.1 k W (he.2.1.below hW) (hx.2.le (by omega)) (by omega))
theorem fin_nz{x:Ts}(hx:EOk 64 x.1∧EOk 64 x.2.1)(h:szero x=false)(hle:x.1.1=0→x.2.1.1=0→fcmp x.1.2 x.2.1.2≤0)(hi:x.1.1=0∨x.1.1=-1)(hj:x.2.1.1=0∨x.2.1.1=1):(x.1.1=0→x.1.2.2.1≠0)∧(x.2.1.1=0→x.2.1.2.2.1≠0):=by
 unfold szero at h
 have ea:∀{y:Int×Tq},EOk 64 y→y.1=0→y.2.2.1=0→esgn y=0:=by
  intro y hy h1 h2;unfold esgn;rw[if_pos h1,(hy.fin h1).zs h2,h2];rfl
 constructor
 ·intro h0 h1;rw[ea hx.1 h0 h1] at h;rw[show decide ((0:Int)≤0)=true from rfl,Bool.true_and] at h;have h:=of_decide_eq_false h
  rcases hj with hj | hj
  ·have hl:=sgn_mono (hx.1.fin h0) (hx.2.fin hj) (hle h0 hj)
   have e2:esgn x.2.1=sgn x.2.1.2.1 x.2.1.2.2.1:=by unfold esgn;rw[if_pos hj]
   have e1:sgn x.1.2.1 x.1.2.2.1=0:=by rw[(hx.1.fin h0).zs h1,h1];rfl
   omega
  ·have e2:esgn x.2.1=1:=by unfold esgn;rw[if_neg (by omega),hj]
   omega
 ·intro h0 h1;rw[ea hx.2 h0 h1] at h;rw[show decide ((0:Int)≤0)=true from rfl,Bool.and_true] at h;have h:=of_decide_eq_false h
  rcases hi with hi | hi
  ·have hl:=sgn_mono (hx.1.fin hi) (hx.2.fin h0) (hle hi h0)
   have e2:esgn x.1=sgn x.1.2.1 x.1.2.2.1:=by unfold esgn;rw[if_pos hi]
   have e1:sgn x.2.1.2.1 x.2.1.2.2.1=0:=by rw[(hx.2.fin h0).zs h1,h1];rfl
   omega
  ·have e2:esgn x.1=-1:=by unfold esgn;rw[if_neg (by omega),hi]
   omega
def pzero (n:Int) (x:Ts):Bool:=decide (n < 0) && szero x
theorem spow_any(i1 s1 p1 k1 c1 q1 l1 d1 j1 sz1 pz1 kz1 cz1 qz1 lz1 dz1 e1 n)(x:Ts)(w:World)(h:SRep w (.agg #[.int .i64 i1,.bool s1,.slice p1 k1 c1,.slice q1 l1 d1,.int .i64 j1,.bool sz1,.slice pz1 kz1 cz1,.slice qz1 lz1 dz1,.bool e1]) x)(hx:EOk 64 x.1∧EOk 64 x.2.1)(hx2:x.2.2=false)(hz:szero x=false→(x.1.1=0→x.1.2.2.1≠0)∧(x.2.1.1=0→x.2.1.2.2.1≠0))(hn:-32≤n∧n≤32)(ht:TabOk w):
  (pzero n x=false→Calls Tryz.prog 41 #[.agg #[.int .i64 i1,.bool s1,.slice p1 k1 c1,.slice q1 l1 d1,.int .i64 j1,.bool sz1,.slice pz1 kz1 cz1,.slice qz1 lz1 dz1,.bool e1],.int .i64 n] w (SP w (spow x n)))∧
  (pzero n x=true→Calls Tryz.prog 41 #[.agg #[.int .i64 i1,.bool s1,.slice p1 k1 c1,.slice q1 l1 d1,.int .i64 j1,.bool sz1,.slice pz1 kz1 cz1,.slice qz1 lz1 dz1,.bool e1],.int .i64 n] w fun e w'=>e=pan 10∧Bw w w'):=by
 unfold spow pzero;have hI:=sinv_any i1 s1 p1 k1 c1 q1 l1 d1 j1 sz1 pz1 kz1 cz1 qz1 lz1 dz1 e1 x
 rcases Int.lt_trichotomy n 0 with h0 | h0 | h0
 ·rw[decide_eq_true h0,Bool.true_and,if_neg (by omega),if_pos h0]
  have z0:(n == 0)=false:=by
   have:n≠0:=by omega
   simpa using this
  constructor
  ·intro hs;have hz':=hz hs;obtain⟨k,hk⟩:=Int.eq_ofNat_of_zero_le (show 0≤-n by omega)
   have hn':n=-(k:Int):=by omega
   subst hn'
   have ek:(-(-(k:Int))).toNat=k:=by omega
   rw[ek]
   exact spw_neg_ok i1 s1 p1 k1 c1 q1 l1 d1 j1 sz1 pz1 kz1 cz1 qz1 lz1 dz1 e1 _ (k:Int) (sinv x) _ w z0 (decide_eq_true h0) (wrap_neg (by omega))
    (hid fun W hW=>(sinv_any i1 s1 p1 k1 c1 q1 l1 d1 j1 sz1 pz1 kz1 cz1 qz1 lz1 dz1 e1 x W (h.below hW) ⟨hx.1.le (by omega),hx.2.le (by omega)⟩ hz (ht.below hW)).1 hs)
    (hid fun W i2 s2 p2 k2 c2 q2 l2 d2 j2 sz2 pz2 kz2 cz2 qz2 lz2 dz2 e2 hW hS=>spos_any i2 s2 p2 k2 c2 q2 l2 d2 j2 sz2 pz2 kz2 cz2 qz2 lz2 dz2 e2 k (sinv x) W hS ⟨hx.2.iv hz'.2,hx.1.iv hz'.1⟩ rfl (by omega) (by omega))
  ·intro hs;exact spw_neg_err i1 s1 p1 k1 c1 q1 l1 d1 j1 sz1 pz1 kz1 cz1 qz1 lz1 dz1 e1 n 10 w z0 (decide_eq_true h0) (hid fun W hW=>(sinv_any i1 s1 p1 k1 c1 q1 l1 d1 j1 sz1 pz1 kz1 cz1 qz1 lz1 dz1 e1 x W (h.below hW) ⟨hx.1.le (by omega),hx.2.le (by omega)⟩ hz (ht.below hW)).2 hs)
 ·subst h0;exact⟨fun _=>spw_zero i1 s1 p1 k1 c1 q1 l1 d1 j1 sz1 pz1 kz1 cz1 qz1 lz1 dz1 e1 w,fun h=>absurd h (by simp)⟩
 ·rw[decide_eq_false (show ¬n < 0 by omega),Bool.false_and,if_neg (by omega),if_neg (by omega)];refine⟨fun _=>?_,fun h=>absurd h (by decide)⟩;obtain⟨k,rfl⟩:=Int.eq_ofNat_of_zero_le (show 0≤n by omega);exact spos_any i1 s1 p1 k1 c1 q1 l1 d1 j1 sz1 pz1 kz1 cz1 qz1 lz1 dz1 e1 k x w h hx hx2 (by omega) (by omega)
theorem Pow1_ok(i1 s1 p1 k1 c1 q1 l1 d1 j1 sz1 pz1 kz1 cz1 qz1 lz1 dz1 e1)(Bn Bp:Nat)(n p)(x r:Ts)(w:World)(hBn:Box w Bn #[.int .i64 n])(hBp:Box w Bp #[.int .i64 p])
  (HP:Hid (∀W,Bw w W→Calls Tryz.prog 41 #[.agg #[.int .i64 i1,.bool s1,.slice p1 k1 c1,.slice q1 l1 d1,.int .i64 j1,.bool sz1,.slice pz1 kz1 cz1,.slice qz1 lz1 dz1,.bool e1],.int .i64 n] W (SP W x)))
  (HR:Hid (∀W i4 s4 p4 k4 c4 q4 l4 d4 j4 sz4 pz4 kz4 cz4 qz4 lz4 dz4 e4,Bw w W→SRep W (.agg #[.int .i64 i4,.bool s4,.slice p4 k4 c4,.slice q4 l4 d4,.int .i64 j4,.bool sz4,.slice pz4 kz4 cz4,.slice qz4 lz4 dz4,.bool e4]) x→Calls Tryz.prog 42 #[.agg #[.int .i64 i4,.bool s4,.slice p4 k4 c4,.slice q4 l4 d4,.int .i64 j4,.bool sz4,.slice pz4 kz4 cz4,.slice qz4 lz4 dz4,.bool e4],.int .i64 p] W (SP W r))):
  Calls Tryz.prog 40 #[.agg #[.int .i64 i1,.bool s1,.slice p1 k1 c1,.slice q1 l1 d1,.int .i64 j1,.bool sz1,.slice pz1 kz1 cz1,.slice qz1 lz1 dz1,.bool e1],.pointer (some ⟨Bn,0,none⟩),.pointer (some ⟨Bp,0,none⟩)] w (SP w r):=by
 have HPn:=hid hBn;have HPp:=hid hBp;have hln:=hBn.lt;have hlp:=hBp.lt;clear hBn hBp;go_enter Tryz.func40,Tryz.ntmps40;go_upto_region 1 with fail;generalize hA:World.alloc _ _=W0;have HV:=hid (pre2_o hA nd9 nd9);clear hA;have HQ:=hid (QQ.i3 (cs:=[.int .i64 i1,.bool s1,.slice p1 k1 c1,.slice q1 l1 d1,.int .i64 j1,.bool sz1,.slice pz1 kz1 cz1,.slice qz1 lz1 dz1,.bool e1]) (cs':=[.int .i64 n]) (c2:=[.int .i64 p]) HV.out.1 (HPn.out.below HV.out.2.2) (HPp.out.below HV.out.2.2) HV.out.2.2);have HS:=hid (fun (w':World) (hb:QQ w [(w.heap.size,[.int .i64 i1,.bool s1,.slice p1 k1 c1,.slice q1 l1 d1,.int .i64 j1,.bool sz1,.slice pz1 kz1 cz1,.slice qz1 lz1 dz1,.bool e1]),(Bn,[.int .i64 n]),(Bp,[.int .i64 p])] w')=>qs_9_1_1 hb);have HN:Hid (Apart [(w.heap.size,[.int .i64 i1,.bool s1,.slice p1 k1 c1,.slice q1 l1 d1,.int .i64 j1,.bool sz1,.slice pz1 kz1 cz1,.slice qz1 lz1 dz1,.bool e1]),(Bn,[.int .i64 n]),(Bp,[.int .i64 p])] (w.heap.size+1)):=hid (ne3 (by omega) (by omega) (by omega));have HI:Hid (w.heap.size≤w.heap.size+1):=hid (by omega)
 go_region_held3 (fun w'=>w'.cell? ⟨w.heap.size,0,none⟩=some (.int .i64 i1)∧w'.cell? ⟨w.heap.size,1,none⟩=some (.bool s1)∧w'.cell? ⟨w.heap.size,2,none⟩=some (.slice p1 k1 c1)∧w'.cell? ⟨w.heap.size,3,none⟩=some (.slice q1 l1 d1)∧w'.cell? ⟨w.heap.size,4,none⟩=some (.int .i64 j1)∧w'.cell? ⟨w.heap.size,5,none⟩=some (.bool sz1)∧w'.cell? ⟨w.heap.size,6,none⟩=some (.slice pz1 kz1 cz1)∧w'.cell? ⟨w.heap.size,7,none⟩=some (.slice qz1 lz1 dz1)∧w'.cell? ⟨w.heap.size,8,none⟩=some (.bool e1)∧w'.cell? ⟨Bn,0,none⟩=some (.int .i64 n)∧w'.cell? ⟨Bp,0,none⟩=some (.int .i64 p)∧Hid (QQ w [(w.heap.size,[.int .i64 i1,.bool s1,.slice p1 k1 c1,.slice q1 l1 d1,.int .i64 j1,.bool sz1,.slice pz1 kz1 cz1,.slice qz1 lz1 dz1,.bool e1]),(Bn,[.int .i64 n]),(Bp,[.int .i64 p])] w'))
  (first | (refine HS.out _ ?_;first | (with_reducible exact HQ.out.drew) | (with_reducible assumption) | (with_reducible refine QQ.st9 ?_ HN.out HI.out;assumption)))
  (first
   | (go_at_call 41;refine(HP.out _ HQ.out.drew.bel).mono ?_;rintro e wa ⟨i4,s4,p4,k4,c4,q4,l4,d4,j4,sz4,pz4,kz4,cz4,qz4,lz4,dz4,e4,rfl,hE1,hB1⟩;have hQ1:=HQ.out.drew.call hB1;have hV1:=(HV.out.2.1.drew).below hB1)
   | (go_at_call 42;refine(HR.out _ i4 s4 p4 k4 c4 q4 l4 d4 j4 sz4 pz4 kz4 cz4 qz4 lz4 dz4 e4 hQ1.bel hE1.out).mono ?_;rintro e wb ⟨i3,s3,p3,k3,c3,q3,l3,d3,j3,sz3,pz3,kz3,cz3,qz3,lz3,dz3,e3,rfl,hE2,hB2⟩;have hQ2:=hQ1.call hB2;have hV2:=hV1.below hB2;obtain⟨g0,g1,g2,g3,g4,g5,g6,g7,g8,f0,f1,f2,f3,f4,f5,f6,f7,f8⟩:=hV2.cells9))
 rename_i hHeld
 clear hHeld;have HE:=hid (Ai hV2 (Ai hE2.out hQ2.bel));clear hQ1 hQ2 hV1 hV2 hB1 hB2 hE1 hE2;go_wp2_with fail;exact Pow1_ret rfl (HE.out.1.stores [.int .i64 i3,.bool s3,.slice p3 k3 c3,.slice q3 l3 d3,.int .i64 j3,.bool sz3,.slice pz3 kz3 cz3,.slice qz3 lz3 dz3,.bool e3] rfl nd9) ⟨i3,s3,p3,k3,c3,q3,l3,d3,j3,sz3,pz3,kz3,cz3,qz3,lz3,dz3,e3,rfl,hid (SRep.stores (k:=0) (l:=[.int .i64 i3,.bool s3,.slice p3 k3 c3,.slice q3 l3 d3,.int .i64 j3,.bool sz3,.slice pz3 kz3 cz3,.slice qz3 lz3 dz3,.bool e3]) HE.out.2.1 HE.out.1 nd9),Below.stores (k:=0) (l:=[.int .i64 i3,.bool s3,.slice p3 k3 c3,.slice q3 l3 d3,.int .i64 j3,.bool sz3,.slice pz3 kz3 cz3,.slice qz3 lz3 dz3,.bool e3]) HE.out.2.2 (by omega)⟩
theorem Pow1_err(i1 s1 p1 k1 c1 q1 l1 d1 j1 sz1 pz1 kz1 cz1 qz1 lz1 dz1 e1)(Bn Bp:Nat)(n p c:Int)(w:World)(hBn:Box w Bn #[.int .i64 n])(hBp:Box w Bp #[.int .i64 p])
  (HP:Hid (∀W,Bw w W→Calls Tryz.prog 41 #[.agg #[.int .i64 i1,.bool s1,.slice p1 k1 c1,.slice q1 l1 d1,.int .i64 j1,.bool sz1,.slice pz1 kz1 cz1,.slice qz1 lz1 dz1,.bool e1],.int .i64 n] W fun e w'=>e=pan c∧Bw W w')):
  Calls Tryz.prog 40 #[.agg #[.int .i64 i1,.bool s1,.slice p1 k1 c1,.slice q1 l1 d1,.int .i64 j1,.bool sz1,.slice pz1 kz1 cz1,.slice qz1 lz1 dz1,.bool e1],.pointer (some ⟨Bn,0,none⟩),.pointer (some ⟨Bp,0,none⟩)] w fun e w'=>e=pan c∧Bw w w':=by
 have HPn:=hid hBn;have HPp:=hid hBp;have hln:=hBn.lt;have hlp:=hBp.lt;clear hBn hBp;go_enter Tryz.func40,Tryz.ntmps40;go_upto_region 1 with fail;generalize hA:World.alloc _ _=W0;have HV:=hid (pre2_o hA nd9 nd9);clear hA;have HQ:=hid (QQ.i3 (cs:=[.int .i64 i1,.bool s1,.slice p1 k1 c1,.slice q1 l1 d1,.int .i64 j1,.bool sz1,.slice pz1 kz1 cz1,.slice qz1 lz1 dz1,.bool e1]) (cs':=[.int .i64 n]) (c2:=[.int .i64 p]) HV.out.1 (HPn.out.below HV.out.2.2) (HPp.out.below HV.out.2.2) HV.out.2.2);have HS:=hid (fun (w':World) (hb:QQ w [(w.heap.size,[.int .i64 i1,.bool s1,.slice p1 k1 c1,.slice q1 l1 d1,.int .i64 j1,.bool sz1,.slice pz1 kz1 cz1,.slice qz1 lz1 dz1,.bool e1]),(Bn,[.int .i64 n]),(Bp,[.int .i64 p])] w')=>qs_9_1_1 hb);refine wp_region_held_drew (S:=(fun w'=>w'.cell? ⟨w.heap.size,0,none⟩=some (.int .i64 i1)∧w'.cell? ⟨w.heap.size,1,none⟩=some (.bool s1)∧w'.cell? ⟨w.heap.size,2,none⟩=some (.slice p1 k1 c1)∧w'.cell? ⟨w.heap.size,3,none⟩=some (.slice q1 l1 d1)∧w'.cell? ⟨w.heap.size,4,none⟩=some (.int .i64 j1)∧w'.cell? ⟨w.heap.size,5,none⟩=some (.bool sz1)∧w'.cell? ⟨w.heap.size,6,none⟩=some (.slice pz1 kz1 cz1)∧w'.cell? ⟨w.heap.size,7,none⟩=some (.slice qz1 lz1 dz1)∧w'.cell? ⟨w.heap.size,8,none⟩=some (.bool e1)∧w'.cell? ⟨Bn,0,none⟩=some (.int .i64 n)∧w'.cell? ⟨Bp,0,none⟩=some (.int .i64 p)∧Hid (QQ w [(w.heap.size,[.int .i64 i1,.bool s1,.slice p1 k1 c1,.slice q1 l1 d1,.int .i64 j1,.bool sz1,.slice pz1 kz1 cz1,.slice qz1 lz1 dz1,.bool e1]),(Bn,[.int .i64 n]),(Bp,[.int .i64 p])] w'))) (by kernel_rfl) (HS.out _ HQ.out.drew) (fun hHeld=>?_);refine wpAnyH_take (i:=0) (v:=?vv0) rfl (by kernel_rfl) (by kernel_rfl) (by kernel_rfl) (fun _ _ _ h=>h) (Or.inl ⟨by rfl,?hy0⟩) (by assumption) ?_
 case hy0=>(intro w' hSw;(try dsimp only at hSw);go_simp;first | done | with_reducible rfl)
 simp only[Act.put];refine wpAnyH_take (i:=1) (v:=?vv1) rfl (by kernel_rfl) (by kernel_rfl) (by kernel_rfl) (fun _ _ _ h=>h) (Or.inl ⟨by rfl,?hy1⟩) (by assumption) ?_
 case hy1=>(intro w' hSw;(try dsimp only at hSw);go_simp;first | done | with_reducible rfl)
 simp only[Act.put];refine wpAnyH_take (i:=3) (v:=?vv3) rfl (by kernel_rfl) (by kernel_rfl) (by kernel_rfl) (fun _ _ _ h=>h) (Or.inl ⟨by rfl,?hy3⟩) (by assumption) ?_
 case hy3=>(intro w' hSw;(try dsimp only at hSw);go_simp;first | done | with_reducible rfl)
 simp only[Act.put];refine wpAnyH_ready (rs:=[2]) (by kernel_rfl) (by simp) ?_;refine .cons rfl (fun K hK=>?_) .nil;go_simp;go_at_call 41;refine(HP.out _ HQ.out.drew.bel).mono ?_;rintro e wa ⟨rfl,hB1⟩;exact⟨rfl,rfl,(HQ.out.drew.call hB1).bel⟩
theorem enter_Pow1(args:Array Value)(w:World):(callFunc 40 args).run Tryz.prog w=.ok (.enter 40 args) w:=call_enter Tryz.func40 (by kernel_rfl) rfl args w
def pvalid (n p:Int):Bool:=prec p && decide (-32≤n) && decide (n≤32)
theorem pvalid_of{n p:Int}(h:pvalid n p=true):∃pr:Nat,p=(pr:Int)∧pr≤128∧-32≤n∧n≤32:=by
 unfold pvalid prec at h;rw[Bool.and_eq_true,Bool.and_eq_true,Bool.and_eq_true,decide_eq_true_eq,decide_eq_true_eq,decide_eq_true_eq,decide_eq_true_eq] at h;exact⟨p.toNat,by omega,by omega,by omega,by omega⟩
def spr (n p:Int) (x:Ts):Ts:=sround (spow x n) p.toNat
theorem iPow_gen(s1 p1 k1 c1 q1 l1 d1 sz1 pz1 kz1 cz1 qz1 lz1 dz1 x1 y1 n p)(c:Int)(D:Ti)(w:World)
  (HC:Hid (∀W,Bw w W→Box W (w.heap.size+1) #[.int .i64 n]→Box W (w.heap.size+1+1) #[.int .i64 p]→Calls Tryz.prog 36 #[.agg #[.bool s1,.slice p1 k1 c1,.slice q1 l1 d1,.bool sz1,.slice pz1 kz1 cz1,.slice qz1 lz1 dz1,.bool x1,.bool y1],.bool (pvalid n p),.func (.func 40) #[] #[.pointer (some ⟨w.heap.size+1,0,none⟩),.pointer (some ⟨w.heap.size+1+1,0,none⟩)]] W (GT W c D))):
  Calls Tryz.prog 16 #[.agg #[.bool s1,.slice p1 k1 c1,.slice q1 l1 d1,.bool sz1,.slice pz1 kz1 cz1,.slice qz1 lz1 dz1,.bool x1,.bool y1],.int .i64 n,.int .i64 p] w (GT w c D):=by
 have hmf:=makeFunc_run;have HPr:=hid (isPrecision_any p);unfold pvalid at HC;obtain⟨u,hu⟩:∃u,u=prec p:=⟨_,rfl⟩;obtain⟨l,hl⟩:∃u,u=decide (-32≤n):=⟨_,rfl⟩;obtain⟨g,hg⟩:∃u,u=decide (n≤32):=⟨_,rfl⟩;rw[←hu] at HPr;rw[←hu,←hl,←hg] at HC;clear hu;have hl':=hl.symm;have hg':=hg.symm;clear hl hg;cases u
 all_goals (try cases l)
 all_goals (try cases g)
 all_goals
  go_enter Tryz.func16,Tryz.ntmps16
  go_upto_region 1 with fail
  generalize hA:World.alloc _ _=W0
  have HV:=hid (pre4_o hA nd8 nd1 nd1 nd8)
  clear hA
  obtain⟨t0,_⟩:=HV.out.2.1.cells1
  obtain⟨t1,_⟩:=HV.out.2.2.1.cells1
  go_wp2_with fail
  refine(HPr.out _).mono ?_
  rintro e wa ⟨rfl,rfl⟩
  clear t0 t1
  obtain⟨t0,_⟩:=HV.out.2.1.cells1
  obtain⟨m0,m1,m2,m3,m4,m5,m6,m7,_⟩:=HV.out.1.cells8
  go_wp2_with fail
  refine(HC.out _ HV.out.2.2.2.2 HV.out.2.1 HV.out.2.2.1).mono ?_
  rintro e wb ⟨s5,p5,k5,c5,q5,l5,d5,sz5,pz5,kz5,cz5,qz5,lz5,dz5,x5,y5,rfl,hG,hB2⟩
  clear t0 m0 m1 m2 m3 m4 m5 m6 m7
  have HE:=hid (Ai (HV.out.2.2.2.1.below hB2) (Ai hG.out (HV.out.2.2.2.2.trans (hB2.mono HV.out.2.2.2.2.size))))
  clear hB2 hG
  obtain⟨g0,g1,g2,g3,g4,g5,g6,g7,f0,f1,f2,f3,f4,f5,f6,f7⟩:=HE.out.1.cells8
  go_wp2_with fail
  exact iPow_ret rfl rfl (HE.out.1.stores [.bool s5,.slice p5 k5 c5,.slice q5 l5 d5,.bool sz5,.slice pz5 kz5 cz5,.slice qz5 lz5 dz5,.bool x5,.bool y5] rfl nd8) ⟨s5,p5,k5,c5,q5,l5,d5,sz5,pz5,kz5,cz5,qz5,lz5,dz5,x5,y5,rfl,hid (GRep.stores (k:=0) (l:=[.bool s5,.slice p5 k5 c5,.slice q5 l5 d5,.bool sz5,.slice pz5 kz5 cz5,.slice qz5 lz5 dz5,.bool x5,.bool y5]) HE.out.2.1 HE.out.1 nd8),Below.stores (k:=0) (l:=[.bool s5,.slice p5 k5 c5,.slice q5 l5 d5,.bool sz5,.slice pz5 kz5 cz5,.slice qz5 lz5 dz5,.bool x5,.bool y5]) HE.out.2.2 (by omega)⟩
theorem srd_nz{a b:Tq}{x y:Bool}(h1:large a.2.1 a.2.2=false)(h2:large b.2.1 b.2.2=false)(he:(srd (a,b,x,y)).2.2=false)(h:szero (srd (a,b,x,y))=false):((srd (a,b,x,y)).1.1=0→(srd (a,b,x,y)).1.2.2.1≠0)∧((srd (a,b,x,y)).2.1.1=0→(srd (a,b,x,y)).2.1.2.2.1≠0):=by
 refine fin_nz ⟨rdE_ok (.inr rfl) h1,rdE_ok (.inl rfl) h2⟩ h ?_ ?_ ?_
 ·cases x<;>cases y
  ·intro _ _;have hle:decide (0 < ecmp (rdE false (-1) a) (rdE false 1 b))=false:=he;have hle:=of_decide_eq_false hle
   have e3:ecmp (rdE false (-1) a) (rdE false 1 b)=fcmp (fr a) (fr b):=by show ecmp (0,fr a) (0,fr b)=_;unfold ecmp;simp
   rw[e3] at hle;show fcmp (fr a) (fr b)≤0;omega
  ·intro _ h;have h:(1:Int)=0:=h;omega
  ·intro h;have h:(-1:Int)=0:=h;omega
  ·intro h;have h:(-1:Int)=0:=h;omega
 ·cases x
  ·exact .inl rfl
  ·exact .inr rfl
 ·cases y
  ·exact .inl rfl
  ·exact .inr rfl
theorem spow_ok{n:Int}{x:Ts}(hx:EOk 64 x.1∧EOk 64 x.2.1)(hz:szero x=false→(x.1.1=0→x.1.2.2.1≠0)∧(x.2.1.1=0→x.2.1.2.2.1≠0))(hn:-32≤n∧n≤32)(hk:pzero n x=false):(EOk 2100 (spow x n).1∧EOk 2100 (spow x n).2.1)∧(spow x n).2.2=false:=by
 unfold pzero at hk;unfold spow
 rcases Int.lt_trichotomy n 0 with h0 | h0 | h0
 ·rw[if_neg (by omega),if_pos h0];rw[decide_eq_true h0,Bool.true_and] at hk;have hz:=hz hk;exact⟨spos_ok (x:=sinv x) ⟨hx.2.iv hz.2,hx.1.iv hz.1⟩ (by omega),rfl⟩
 ·rw[if_pos h0]
  have k1:EOk 2100 ((0,false,1,1):Int×Tq):=by
   have h1:1 < W32 ^ 2100:=by
    generalize hA:2100=A;exact Nat.one_lt_pow (by omega) (by decide)
   exact⟨fun _=>⟨false,1,1,by decide,rfl⟩,fun h=>absurd rfl h,h1,h1⟩
  exact⟨⟨k1,k1⟩,rfl⟩
 ·rw[if_neg (by omega),if_neg (by omega)];exact⟨spos_ok hx (by omega),rfl⟩
theorem iPow_any(s1 p1 k1 c1 q1 l1 d1 sz1 pz1 kz1 cz1 qz1 lz1 dz1 x1 y1)(a b:Tq)(n p)(w:World)(ha:NRep w (.agg #[.bool s1,.slice p1 k1 c1,.slice q1 l1 d1]) a)(hb:NRep w (.agg #[.bool sz1,.slice pz1 kz1 cz1,.slice qz1 lz1 dz1]) b)(ht:TabOk w):
  Calls Tryz.prog 16 #[.agg #[.bool s1,.slice p1 k1 c1,.slice q1 l1 d1,.bool sz1,.slice pz1 kz1 cz1,.slice qz1 lz1 dz1,.bool x1,.bool y1],.int .i64 n,.int .i64 p] w fun e w'=>∃s5 p5 k5 c5 q5 l5 d5 sz5 pz5 kz5 cz5 qz5 lz5 dz5 x5 y5,e=.returned (.tuple #[.agg #[.bool s5,.slice p5 k5 c5,.slice q5 l5 d5,.bool sz5,.slice pz5 kz5 cz5,.slice qz5 lz5 dz5,.bool x5,.bool y5],.int .i64 (kcode (pvalid n p) (pzero n) 10 (spr n p) (a,b,x1,y1))])∧Hid (GRep w' (.agg #[.bool s5,.slice p5 k5 c5,.slice q5 l5 d5,.bool sz5,.slice pz5 kz5 cz5,.slice qz5 lz5 dz5,.bool x5,.bool y5]) (kval (pvalid n p) (pzero n) (spr n p) (a,b,x1,y1)))∧Bw w w':=by
 refine iPow_gen s1 p1 k1 c1 q1 l1 d1 sz1 pz1 kz1 cz1 qz1 lz1 dz1 x1 y1 n p _ _ w (hid fun W hW hBn hBp=>?_);refine one_k s1 p1 k1 c1 q1 l1 d1 sz1 pz1 kz1 cz1 qz1 lz1 dz1 x1 y1 (pvalid n p) _ _ (pzero n) 10 (spr n p) a b W (ha.below hW) (hb.below hW) (ht.below hW) enter_Pow1 ?_ ?_ ?_
 ·intro hv h1 h2 he hk;obtain⟨pr,rfl,kp,k2,k8⟩:=pvalid_of hv;have k:=spow_ok (x:=srd (a,b,x1,y1)) (n:=n) ⟨rdE_ok (.inr rfl) h1,rdE_ok (.inl rfl) h2⟩ (srd_nz h1 h2 he) ⟨k2,k8⟩ hk;exact⟨⟨k.1.1.dnB (by omega) kp,k.1.2.upB (by omega) kp⟩,rfl⟩
 ·intro hv h1 h2 he hk W' i3 s3 p3 k3 c3 q3 l3 d3 j3 sz3 pz3 kz3 cz3 qz3 lz3 dz3 e3 hW' hS;obtain⟨pr,rfl,kp,k2,k8⟩:=pvalid_of hv;have k:=spow_ok (x:=srd (a,b,x1,y1)) (n:=n) ⟨rdE_ok (.inr rfl) h1,rdE_ok (.inl rfl) h2⟩ (srd_nz h1 h2 he) ⟨k2,k8⟩ hk
  exact Pow1_ok i3 s3 p3 k3 c3 q3 l3 d3 j3 sz3 pz3 kz3 cz3 qz3 lz3 dz3 e3 _ _ _ _ (spow (srd (a,b,x1,y1)) n) _ W' (hBn.below hW') (hBp.below hW')
   (hid fun W2 hW2=>(spow_any i3 s3 p3 k3 c3 q3 l3 d3 j3 sz3 pz3 kz3 cz3 qz3 lz3 dz3 e3 n _ W2 (hS.below hW2) ⟨rdE_ok (.inr rfl) h1,rdE_ok (.inl rfl) h2⟩ he (srd_nz h1 h2 he) ⟨k2,k8⟩ (((ht.below hW).below hW').below hW2)).1 hk)
   (hid fun W2 i4 s4 p4 k4 c4 q4 l4 d4 j4 sz4 pz4 kz4 cz4 qz4 lz4 dz4 e4 hW2 hS4=>sroundB_any i4 s4 p4 k4 c4 q4 l4 d4 j4 sz4 pz4 kz4 cz4 qz4 lz4 dz4 e4 pr _ W2 hS4 ⟨k.1.1.le (by omega),k.1.2.le (by omega)⟩ (by omega) (((ht.below hW).below hW').below hW2))
 ·intro hv h1 h2 he hk W' i3 s3 p3 k3 c3 q3 l3 d3 j3 sz3 pz3 kz3 cz3 qz3 lz3 dz3 e3 hW' hS;obtain⟨pr,rfl,kp,k2,k8⟩:=pvalid_of hv;exact Pow1_err i3 s3 p3 k3 c3 q3 l3 d3 j3 sz3 pz3 kz3 cz3 qz3 lz3 dz3 e3 _ _ _ _ _ W' (hBn.below hW') (hBp.below hW') (hid fun W2 hW2=>(spow_any i3 s3 p3 k3 c3 q3 l3 d3 j3 sz3 pz3 kz3 cz3 qz3 lz3 dz3 e3 n _ W2 (hS.below hW2) ⟨rdE_ok (.inr rfl) h1,rdE_ok (.inl rfl) h2⟩ he (srd_nz h1 h2 he) ⟨k2,k8⟩ (((ht.below hW).below hW').below hW2)).2 hk)
end Go.Proofs.YteblinkehldghaaGreatDoor
