/- The natural numbers of the specification: NatDiv by more than a digit. -/
import Derived.Test.YteblinkehldghaaGreatDoorRefP
import Derived.Deep.RegionHeld3
set_option maxHeartbeats 8000000
set_option maxRecDepth 100000
namespace Go.Proofs.YteblinkehldghaaGreatDoor
open Go.RowKit Dg
open And renaming intro→Ai
open Nat renaming le_refl→Lr
open Below renaming refl→Br
theorem shl_lt'{x a s:Nat}(hx:x < B16 ^ a)(hs:s < 16):x*2 ^ s < B16 ^ (a+1):=by
 rw[Nat.pow_succ];exact Nat.mul_lt_mul'' hx (Nat.lt_of_lt_of_le (Nat.pow_lt_pow_right (by omega) hs) (by decide))
theorem len_bd{y n:Nat}(hl:Len B16 y n){x a s:Nat}(hx:x < B16 ^ a)(hs:s < 16)(he:y=x*2 ^ s):n≤a+1:=hl.le B16_pos (by rw[he];exact shl_lt' hx hs)
theorem quo_lt{A V m n T:Nat}(hA:A < B16 ^ m)(hV:Len B16 V n)(hn:0 < n)(hT:T+n=m+1):A / V < B16 ^ T:=by
 refine Nat.div_lt_of_lt_mul (Nat.lt_of_lt_of_le hA ?_);rw[show m=(n - 1)+T by omega,Nat.pow_add];exact Nat.mul_le_mul_right _ (hV.2 hn)
theorem held1'{N:Nat}{W0 W:World}(h:True∧Hid (Below N W0 W)):Below N W0 W:=h.2.out
theorem NatDiv_long(va vb:Value)(x y:Nat)(w:World)(ha:Rep B16 w va x)(hb:Rep B16 w vb y)(hx:x < B16 ^ 800000000)(hy1:65536≤y)(hxy:y≤x):
  Calls Tryz.prog 85 #[va,vb] w fun e w'=>∃v1 v2,e=.returned (.tuple #[v1,v2])∧Rep B16 w' v1 (x / y)∧Rep B16 w' v2 (x % y)∧Bw w w':=by
 obtain⟨i0,hi,hz0,hz1,hz2⟩:=info_parts Tryz.infoU32;have HX8:=hid hx;have hx9:x < B16 ^ 1000000000:=lt_16 hx (by omega);have hy9:y < B16 ^ 1000000000:=Nat.lt_of_le_of_lt hxy hx9;have HC:=hid (NatCmp_any va vb x y w ha hb hx9 hy9);have HA:=hid ha;have HBb:=hid hb;obtain⟨p1,k1,c1,rfl,hk1,hl1,hs1⟩:=ha;obtain⟨p2,k2,c2,rfl,hk2,hl2,hs2⟩:=hb
 have hk2b:2≤k2:=by
  rcases Nat.lt_or_ge k2 2 with h | h
  ·have h1:y < B16 ^ 1:=Nat.lt_of_lt_of_le hl2.1 (Nat.pow_le_pow_right B16_pos (by omega));rw[Nat.pow_one,B16_val] at h1;omega
  ·exact h
 have hk2m:k2≤800000000:=hl2.le B16_pos (Nat.lt_of_le_of_lt hxy hx);obtain⟨b2,o2,rfl,hc2⟩:=hs2 (by omega);have hct:=hc2 (k2 - 1) (by omega);have hd0:0 < dg B16 y (k2 - 1):=Nat.pos_of_ne_zero (hl2.top B16_pos (by omega));have hdl:=dg_16 y (k2 - 1);have hcd:decide (cmp3 x y < 0)=false:=decide_eq_false (by unfold cmp3;rw[if_neg (by omega)];split<;>decide);obtain⟨r,hrr⟩:∃r,r=cmp3 x y:=⟨_,rfl⟩;rw[←hrr] at HC hcd;clear hrr;have HL:=hid (Ai hl2 (Ai hk2b (Ai hk2m (Ai hxy (Ai hx9 hy9)))));have HCT:=hid hct;obtain⟨d,hd⟩:∃d,d=dg B16 y (k2 - 1):=⟨_,rfl⟩;rw[←hd] at hd0 hdl HCT;have HD:=hid hd
 have h20:((k2:Int) == 0)=false:=by simp;omega
 have h21:((k2:Int) == 1)=false:=by simp;omega
 have em:((k2:Int) - 1)=((k2 - 1:Nat):Int):=by omega
 clear hct hd hc2 hs1 hl1 hs2 hl2 hx hx9 hy9 hxy hy1 hk1;go_enter Tryz.func85,Tryz.ntmps85;go_wp2_with fail;refine HC.out.mono ?_;rintro e w' ⟨rfl,q,rfl⟩;have hB1:=(below_drewN (Br w.heap.size w) q);have hct:=hB1.cell (p:=⟨b2,o2+(k2 - 1),none⟩) (World.block_lt_of_cell? _ _ HCT.out);rw[HCT.out] at hct;have HB1:=hid hB1;generalize w.drewN q=W1 at *;clear hB1 HC HCT;go_wp2_with fail
 go_loopw [8] (fun sv wr=>∃s:Nat,sv=.int .i64 s∧d*2 ^ s < 65536∧wr=W1) (fun sv _=>16 - (intOf sv).toNat)
 case atStart=>exact⟨0,rfl,by simpa using hdl,rfl⟩
 case round=>
  obtain⟨s,rfl,hs,hwr⟩:=hrel;subst hwr;have hs16:=norm_pos hd0 hs
  have hws:IntKind.u64.wrap (s:Int)=s:=by rw[IntKind.wrap_u64];omega
  obtain⟨E,hE⟩:∃E,E=d*2 ^ s:=⟨_,rfl⟩
  have hsh:((d:Int)*2 ^ s) % 4294967296=(E:Int):=by
   rw[show(d:Int)*2 ^ s=((d*2 ^ s:Nat):Int) by push_cast;rfl,←hE];omega
  rw[←hE] at hs;have HE:=hid hE;clear hE
  by_cases hlt:E < 32768
  ·have hdc:decide ((E:Int) < 32768)=true:=decide_eq_true (by omega);go_wp2_with fail
   go_roundw
   case rel=>exact⟨s+1,by go_num,by rw[Nat.pow_succ,←Nat.mul_assoc,←HE.out];omega,by trivial⟩
   case measure=>simp [intOf];omega
  ·have hdc:decide ((E:Int) < 32768)=false:=decide_eq_false (by omega)
   have hsE:d*2 ^ s < 65536:=by rw[←HE.out];exact hs
   have hSV:=hid (NatShl_own (.slice (some ⟨b2,o2,none⟩) k2 c2) y s wr (HBb.out.below HB1.out) HL.out.2.2.2.2.2 hs16);have hSA:=hid (fun (W:World) (hW:Bw wr W)=>NatShl_own (.slice p1 k1 c1) x s W ((HA.out.below HB1.out).below hW) HL.out.2.2.2.2.1 hs16);have HV:=hid (norm_len (s:=s) HL.out.1 (by have:=HL.out.2.1;omega) (by rw[←HD.out];exact hsE));clear hs hsE HE hlt;go_wp2_with fail;refine hSV.out.mono ?_;rintro e w2 ⟨v2,n2,rfl,hlen2,hown2,hB2⟩;obtain rfl:n2=k2:=Len.unique B16_one hlen2 HV.out;obtain⟨b3,c3,rfl,hb3,hc3,hm3,hur3⟩:=own_urow hown2 (by omega);have HB2:=hid (HB1.out.trans (hB2.mono HB1.out.size));have HV2:=hid (Ai hur3 (Ai hlen2 hc3));have hA2:=hid (hSA.out w2 hB2);have hw2:wr.heap.size≤w2.heap.size:=hB2.size;clear hSV hSA hown2 hB2 hlen2 hur3 hct hdc hws hsh;go_wp2_with fail;refine hA2.out.mono ?_;rintro e w3 ⟨v3,m3,rfl,hlen3,hown3,hB3⟩
   have hx0:0 < x:=by have:=HL.out.2.2.2.1;have:=HL.out.1.pos B16_pos (by have:=HL.out.2.1;omega);omega
   have hm30:0 < m3:=by
    rcases Nat.eq_zero_or_pos m3 with h | h
    ·exfalso
     have h1:=(hlen3.zero_iff B16_pos).2 h;have h2:0 < x*2 ^ s:=Nat.mul_pos hx0 (Nat.pow_pos (by omega));omega
    ·exact h
   have hm3:m3≤800000001:=len_bd hlen3 HX8.out hs16 rfl
   have hnm:n2≤m3:=by
    rcases Nat.lt_or_ge m3 n2 with h | h
    ·exfalso
     have h1:=Len.lt_of_lt B16_pos hlen3 HV.out h;have h2:y*2 ^ s≤x*2 ^ s:=Nat.mul_le_mul_right _ HL.out.2.2.2.1;omega
    ·exact h
   have hA0:dg B16 (x*2 ^ s) m3=0:=dg_zero' B16_pos hlen3.1 (Lr _)
   have hown1:=fun q hq=>(World.ownsRow.lt hown3 q hq).1
   have hal:=(show w3.ownsRow w2.heap.size 65 1 v3 m3 ((List.range m3).map (fun j=>Value.int .u32 (dg B16 (x*2 ^ s) j:Nat))) from hown3).alloc (.cells #[.int .u32 0] 65);have HA3':=hid hlen3;have HA3:=hid (Ai hal (Ai hB3 (Ai hown1 (Ai hA0 (Ai hlen3 hnm)))));have hsz3:=hB3.size
   obtain⟨g3,cg3,rfl,hx3⟩:∃g c,v3=.slice (some ⟨g,0,none⟩) m3 c∧True:=by obtain⟨g,c,h,_⟩:=own_urow hown3 hm30;exact⟨g,c,h,trivial⟩
   clear hx3 hal hown3 hB3 hown1 hA0 hlen3 hx0 hA2
   go_wp2_with (first
    | (at_builtin;refine wpList_append_own _ rfl _ _ 38 rfl w2.heap.size 65 i0 (.int .u32 0) 1 4 Tryz.underlying38 hi hz0 hz1 hz2 rfl (by decide) _ _ _ rfl HA3.out.1 ⟨w3.heap.size,0,none⟩ 1 1 [.int .u32 0] rfl rfl (cell_one_new _ _ _) (fun x hx=>by simp at hx;subst hx;rfl) (by unfold maxLen;omega) (by omega) (by rw[World.size_alloc];omega) ?_;intro v' w4 hown' hgrow4 hnil4))
   have hB4:Bw w2 w4:=(HA3.out.2.1.alloc hsz3 _).grown (show(w3.alloc _).grownBy w4 (Value.ownBlock (.slice (some ⟨g3,0,none⟩) m3 cg3)) from hgrow4) (by rw[World.size_alloc];omega) HA3.out.2.2.1;have hO4:Own w4 w2.heap.size v' (m3+1) (dg B16 (x*2 ^ s)):=Own.push hown' (by rw[HA3.out.2.2.2.1];rfl);obtain⟨L4,hL4⟩:∃L4,L4=m3+1:=⟨_,rfl⟩;rw[←hL4] at hO4;obtain⟨g4,c4,rfl,hb4,hc4,hm4,hur4⟩:=own_urow hO4 (by omega);have hsl4:=(HV2.out.1.slc (i:=0) (n:=n2) (by omega)).below hB4;rw[Nat.pow_zero,Nat.div_one] at hsl4;have hlt3:=HV2.out.1.lt;have hlt4:=hur4.lt;have H4:=hid (Ai hur4 (Ai hsl4 (Ai (HB2.out.trans (hB4.mono HB2.out.size)) (Ai hb4 (Ai hlt3 hc4)))));have hw2':=HB2.out.size;have hnm':n2≤m3:=hnm;obtain⟨T,hT⟩:∃T,T=m3+1 - n2:=⟨_,rfl⟩
   have hT1:(L4:Int) - (n2:Int)=(T:Int):=by omega
   have hTl:T≤800000001:=by have:=HL.out.2.1;omega
   have hmk:=Tryz.mkN T (by omega);have HT:=hid (Ai hL4 (Ai hT hm3))
   have hL4b:L4≤800000002:=by omega
   have HQ:=hid (Ai hb3 (Ai hb4 (Ai hlt4 (Ai hw2 (Ai hw2' hnm)))));clear hown' hgrow4 hnil4 hO4 hB4 hur4 hsl4 hL4 hT hm4 hb3 hb4 hlt4 hw2 hw2' hnm hnm' hlt3 hsz3 HA3 hm3 hm30;go_wp2_with fail;go_simp;go_wp2_with fail;clear hmk;have hal5:=(Br w4.heap.size w4).alloc (Lr _) (.cells (madeCells #[.int .u32 0] T) 65);have HE:=hid (div_start (T:=T) (m:=m3) HA3'.out.1 HV.out (by omega) (by have:=HT.out;have:=HQ.out.2.2.2.2.2;omega))
   go_loopw [13] (DivRel w g4 w4.heap.size b3 0 n2 L4 T (x*2 ^ s) (y*2 ^ s)) (fun jv _=>(intOf jv+1).toNat)
   case atStart=>
    exact⟨T,0,x*2 ^ s,Lr _,rfl,HE.out.1,HE.out.2,H4.out.1.below hal5,urow_made w4 T,H4.out.2.1.below hal5,H4.out.2.2.1.alloc H4.out.2.2.1.size _⟩
   case round=>
    obtain⟨t,Z,D,ht,rfl,hD,hZ,hg,hq,hs,hB⟩:=hrel
    rcases Nat.eq_zero_or_pos t with h0 | h0
    ·subst h0;have hV0:0 < y*2 ^ s:=HV.out.pos B16_pos (by omega);rw[Nat.pow_zero,Nat.mod_one,Nat.zero_add,Nat.one_mul,Nat.div_one] at hD;rw[Nat.pow_zero,Nat.one_mul,Nat.div_one] at hZ;have h2s:0 < 2 ^ s:=Nat.pow_pos (by omega)
     have eD:D / 2 ^ s=x % y:=by rw[hD,Nat.mul_mod_mul_right,Nat.mul_div_cancel _ h2s]
     have eZ:Z=x / y:=by rw[hZ,Nat.mul_div_mul_right _ _ h2s]
     have hDn:D < B16 ^ n2:=by rw[hD];exact Nat.lt_trans (Nat.mod_lt _ hV0) HV.out.1
     have hZT:Z < B16 ^ T:=by rw[hZ];exact quo_lt HA3'.out.1 HV.out (by omega) (by have:=HT.out;have:=HQ.out;omega)
     have hq0:=hq.slc (i:=0) (n:=T) (by omega);have hg0:=hg.slc (i:=0) (n:=n2) (by have:=HT.out;have:=HQ.out;omega);rw[Nat.pow_zero,Nat.div_one] at hq0 hg0;have hT1':=hid (fun (W:World) (hW:Bw wr W)=>trim_any (some ⟨w4.heap.size,0,none⟩) T T Z W (by omega) (Lr _) hZT (hq0.below hW));have hT2':=hid (fun (W:World) (hW:Bw wr W)=>trim_any (some ⟨g4,0,none⟩) n2 c4 D W (by omega) (by have:=HT.out;have:=HQ.out;omega) hDn (hg0.below hW));have hSh:=hid (fun (W:World) (v:Value) (hv:Rep B16 W v D)=>NatShr_any v D s W hv (lt_16 hDn (by omega)) hs16);have HG:=hid (Ai hq0 (Ai hg0 (Ai hB (Ai eD eZ))))
     have hc4n:n2≤c4:=by have:=HT.out;have:=HQ.out;omega
     have HS0:Hid (∀w',Bw wr w'→(True∧Hid (Bw wr w'))):=hid fun w' hb=>⟨trivial,hid hb⟩
     clear hD hZ hg hq hs hB hal5 hq0 hg0 hDn hZT eD eZ h2s hV0;go_upto_region 19 with fail
     go_region_held3 (fun w'=>True∧Hid (Bw wr w'))
      (first | exact HS0.out _ (Br _ _).drew | (exact HS0.out _ (by assumption)) | assumption)
      (first
       | (go_at_call_of 128 T;refine(hT1'.out _ (held1' (by assumption))).mono ?_;rintro e wa ⟨mq,rfl,hmq,hlq,rfl⟩)
       | (go_at_call_of 128 c4;refine(hT2'.out _ (held1' (by assumption))).mono ?_;rintro e wb ⟨mr,rfl,hmr,hlr,rfl⟩)
       | (go_at_call 129;refine(hSh.out _ _ ⟨_,_,_,rfl,Nat.le_trans hmr hc4n,hlr,(HG.out.2.1.below (held1' (N:=wr.heap.size) (W0:=wr) (by assumption))).take hmr⟩).mono ?_;rintro e wc ⟨vr,rfl,hRr,hBr⟩;have hKr:=held_any (held1' (N:=wr.heap.size) (W0:=wr) (by assumption)) hBr))
     all_goals
      rename_i hHeld
      clear hHeld
      go_wp2_with fail
      go_ret2
      refine⟨_,_,rfl,⟨_,mq,T,rfl,hmq,by rw[←HG.out.2.2.2.2];exact hlq,by rw[←HG.out.2.2.2.2];exact(HG.out.1.below hKr).take hmq⟩,by rw[←HG.out.2.2.2.1];exact hRr,HG.out.2.2.1.trans (hKr.mono HG.out.2.2.1.size)⟩
    ·obtain⟨t,rfl⟩:∃t',t=t'+1:=⟨t - 1,by omega⟩
     have e1:((t+1:Nat):Int) - 1=t:=by omega
     rw[e1];clear e1
     have hb1:t+n2+1≤c4:=by have:=HT.out;have:=HQ.out.2.2.2.2.2;omega
     have HG:=hid (Ai hD (Ai hZ (Ai hg (Ai hq (Ai hs hB)))));clear hD hZ hg hq hs hB hal5;go_wp2_with fail;rw[show t+n2+1 - t=n2+1 by omega];obtain⟨hD,hZ,hg,hq,hs,hB⟩:=HG.out;have hV0:0 < y*2 ^ s:=HV.out.pos B16_pos (by omega);obtain⟨hp1,hp2⟩:=div_P (A:=x*2 ^ s) (V:=y*2 ^ s) (t:=t);rw[←hD] at hp1 hp2;obtain⟨hs1,hs2,hs3⟩:=divw_step16 (x:=x*2 ^ s) (t:=t) hV0 rfl
     have hne1:b3≠g4:=by have:=H4.out.2.2.2;omega
     have hdig:=digit_any g4 t n2 (c4 - t) L4 D (y*2 ^ s) b3 0 c3 wr (by omega) (by omega) (by have:=HT.out;have:=HQ.out;omega) (by omega) HV2.out.2.2 hne1 hg HV.out hs (by rw[hp1];exact div_P_lt (Nat.mod_lt _ hV0) (dg_lt B16_pos));rw[hp1,hp2] at hdig;rw[←hZ] at hs2;have HN:=hid (Ai hs1 (Ai hs2 hs3));have HI:=hid (Ai hq (Ai hs (Ai hB hne1)));have HDG:=hid hdig;clear hD hZ hg hq hs hB hp1 hp2 hs1 hs2 hs3 hdig HG hV0;refine HDG.out.mono ?_;rintro e w6 ⟨rfl,hBut,hU⟩
     have hne2:w4.heap.size≠g4:=by have:=HQ.out;omega
     have hq6:=HI.out.1.but hBut hne2;have hs6:=hBut.slc HI.out.2.2.2 HI.out.2.1;have hB6:=hBut.below (show w.heap.size≤g4 by have:=HQ.out;omega) HI.out.2.2.1 HI.out.2.2.1.size;have hfz:=hq6.frozen t;have hcl:=hq6.cell (show t < T by omega);have HJ:=hid (Ai hU (Ai hq6 (Ai hs6 hB6)));clear hBut hU hq6 hs6 hB6;generalize hqq:((x*2 ^ s / B16 ^ (t+1)) % (y*2 ^ s)*B16+dg B16 (x*2 ^ s) t) / (y*2 ^ s)=qd at *;clear hqq;go_wp2_with fail
     go_roundw
     case rel=>
      have hw4:w.heap.size≤w4.heap.size:=H4.out.2.2.1.size
      have hb34:b3≠w4.heap.size:=by have:=H4.out.2.2.2;have:=HQ.out;omega
      have hst:=(But.refl w4.heap.size w6).setCell t (.int .u32 (qd:Nat));refine⟨t,_,_,by omega,rfl,?_,HN.out.2.1,HJ.out.1.but hst (Ne.symm hne2),HJ.out.2.1.set (by omega) HN.out.1,hst.slc hb34 HJ.out.2.2.1,HJ.out.2.2.2.setCell hw4 _⟩;rw[HN.out.2.2]
     case measure=>simp [intOf]
theorem NatDiv_any(va vb:Value)(x y:Nat)(w:World)(ha:Rep B16 w va x)(hb:Rep B16 w vb y)(hx:x < B16 ^ 800000000)(hy:y < B16 ^ 800000000)(hy0:0 < y):
  Calls Tryz.prog 85 #[va,vb] w fun e w'=>∃v1 v2,e=.returned (.tuple #[v1,v2])∧Rep B16 w' v1 (x / y)∧Rep B16 w' v2 (x % y)∧Bw w w':=by
 rcases Nat.lt_or_ge x y with h | h
 ·exact NatDiv_less va vb x y w ha hb (lt_16 hx (by omega)) (lt_16 hy (by omega)) h
 ·rcases Nat.lt_or_ge y 65536 with h2 | h2
  ·exact NatDiv_small va vb x y w ha hb (lt_16 hx (by omega)) h2 hy0 h
  ·exact NatDiv_long va vb x y w ha hb hx h2 h
def GcdRel (w0:World) (x y k:Nat) (sa sb:Value) (wr:World):Prop:=
 ∃A B:Nat,B≤k∧Nat.gcd A B=Nat.gcd x y∧A < B16 ^ 800000000∧B < B16 ^ 800000000∧Rep B16 wr sa A∧Rep B16 wr sb B∧Bw w0 wr
theorem NatGcd_any(va vb:Value)(x y:Nat)(w:World)(ha:Rep B16 w va x)(hb:Rep B16 w vb y)(hx:x < B16 ^ 800000000)(hy:y < B16 ^ 800000000):
  Calls Tryz.prog 84 #[va,vb] w fun e w'=>∃v,e=.returned v∧Rep B16 w' v (Nat.gcd x y)∧Bw w w':=by
 have HA:Hid (GcdRel w x y y va vb w):=hid ⟨x,y,Lr _,rfl,hx,hy,ha,hb,Br _ _⟩;obtain⟨p1,k1,c1,rfl,_⟩:=ha;obtain⟨p2,k2,c2,rfl,_⟩:=hb;clear hx hy;go_enter Tryz.func84,Tryz.ntmps84;go_wp2_with fail
 go_loopg [0,1] y (fun k sa sb wr=>GcdRel w x y k sa sb wr)
 case atStart=>exact HA.out
 case round=>
  clear HA;obtain⟨A,B,hk,hg,hA,hB,hRa,hRb,hBw⟩:=hrel;have HR:=hid (Ai hRa (Ai hRb (Ai hBw (Ai hA (Ai hB (Ai hg hk))))));obtain⟨pb,nb,cb,rfl,hcb,hlb,hsb⟩:=hRb;have hz:=hlb.zero_iff B16_pos;have hnb:=hlb.le B16_pos hB
  by_cases h0:nb=0
  ·subst h0;have hB0:=hz.2 rfl;have HB0:=hid hB0;obtain⟨pa,na,ca,rfl,_⟩:=id hRa;clear hk hg hA hB hRa hBw hlb hsb hz hB0 hnb;go_wp2_with fail
   go_ret
   refine⟨_,rfl,?_,HR.out.2.2.1⟩;rw[←HR.out.2.2.2.2.2.1,HB0.out,Nat.gcd_zero_right];exact HR.out.1
  ·have hpos:0 < B:=Nat.pos_of_ne_zero fun h=>h0 (hz.1 h)
   have hd:=hid (NatDiv_any _ _ A B _ HR.out.1 HR.out.2.1 hA hB hpos);have HP:=hid hpos;have hnb0:0 < nb:=Nat.pos_of_ne_zero h0;clear hk hg hA hB hRa hBw hlb hsb hz hpos h0;go_wp2_with fail;refine hd.out.mono ?_;rintro e w2 ⟨v1,v2,rfl,hR1,hR2,hB2⟩;have H2:=hid (Ai hR2 (Ai (HR.out.2.1.below hB2) (HR.out.2.2.1.trans (hB2.mono HR.out.2.2.1.size))));clear hR1 hR2 hB2 hd;go_wp2_with fail
   go_roundg (A % B)
   case measure=>exact Nat.lt_of_lt_of_le (Nat.mod_lt _ HP.out) HR.out.2.2.2.2.2.2
   case rel=>
    refine⟨B,A % B,Lr _,?_,HR.out.2.2.2.2.1,Nat.lt_of_le_of_lt (Nat.mod_le _ _) HR.out.2.2.2.1,H2.out.2.1,H2.out.1,H2.out.2.2⟩;rw[←HR.out.2.2.2.2.2.1,Nat.gcd_comm A B,Nat.gcd_rec B A,Nat.gcd_comm]
theorem Make_long(s)(vn vd:Value)(n d:Nat)(w:World)(hn:Rep B16 w vn n)(hd:Rep B16 w vd d)(hnB:n < B16 ^ 800000000)(hdB:d < B16 ^ 800000000)(hn0:n≠0)(hd1:1 < d):
  Calls Tryz.prog 47 #[.bool s,vn,vd] w fun e w'=>∃v,e=.returned v∧QNorm w' v (mkq s n d)∧Bw w w':=by
 have hm:mkq s n d=frac s n d:=if_neg (by omega)
 have hfr:frac s n d=(s,n / Nat.gcd n d,d / Nat.gcd n d):=by unfold frac;simp [hn0]
 rw[hm,hfr];have hg0:0 < Nat.gcd n d:=Nat.gcd_pos_of_pos_right _ (by omega);have hgB:Nat.gcd n d < B16 ^ 800000000:=Nat.lt_of_le_of_lt (Nat.gcd_le_right _ (by omega)) hdB;have HG:=hid (fun (W:World) (hW:Bw w W)=>NatGcd_any vn vd n d W (hn.below hW) (hd.below hW) hnB hdB);have HD1:=hid (fun (W:World) (vg:Value) (hW:Bw w W) (hg:Rep B16 W vg (Nat.gcd n d))=>NatDiv_any vn vg n (Nat.gcd n d) W (hn.below hW) hg hnB hgB hg0);have HD2:=hid (fun (W:World) (vg:Value) (hW:Bw w W) (hg:Rep B16 W vg (Nat.gcd n d))=>NatDiv_any vd vg d (Nat.gcd n d) W (hd.below hW) hg hdB hgB hg0);obtain⟨p1,k1,c1,rfl,hk1,hl1,hs1⟩:=hn;obtain⟨p2,k2,c2,rfl,hk2,hl2,hs2⟩:=hd
 have hf1:((k1:Int) == 0)=false:=by
  have:k1≠0:=fun h=>hn0 ((hl1.zero_iff B16_pos).2 h)
  simpa using this
 have hk20:k2≠0:=fun h=>by have:=(hl2.zero_iff B16_pos).2 h;omega
 have hf2:((k2:Int) == 0)=false:=by simpa using hk20
 have hb2:=hl2.le B16_pos hdB;have hb1:=hl1.le B16_pos hnB;obtain⟨b2,o2,rfl,hc2⟩:=hs2 (by omega);have hc20:=hc2 0 (by omega);have ho:=one_of_len16 hl2
 have hcase:(k2=1∧((dg B16 d 0:Int) == 1)=false)∨((k2:Int) == 1)=false:=by
  by_cases h:k2=1
  ·left
   refine⟨h,?_⟩
   have:dg B16 d 0≠1:=fun h2=>by have:=ho.2 ⟨h,h2⟩;omega
   simp;omega
  ·right;simp;omega
 obtain⟨g,hgg⟩:∃g,g=Nat.gcd n d:=⟨_,rfl⟩;rw[←hgg] at HG HD1 HD2 ⊢;obtain⟨qa,hqa⟩:∃q,q=n / g:=⟨_,rfl⟩;obtain⟨qb,hqb⟩:∃q,q=d / g:=⟨_,rfl⟩;rw[←hqa] at HD1 ⊢;rw[←hqb] at HD2 ⊢
 have hcell:(w.alloc (.cells #[.bool false,.slice none 0 0,.slice none 0 0] 40)).cell? ⟨b2,o2+0,none⟩=some (.int .u32 (dg B16 d 0:Nat)):=by rw[World.cell?_alloc_lt _ _ _ (World.block_lt_of_cell? _ _ hc20)];exact hc20
 rw[Nat.add_zero] at hcell;have hV0:=Var3.alloc w (x:=.bool false) (y:=.slice none 0 0) (z:=.slice none 0 0) 40 trivial trivial trivial;have hB0:=(Br w.heap.size w).alloc (Lr _) (.cells #[.bool false,.slice none 0 0,.slice none 0 0] 40);have hdd:=dg_16 d 0;have HV:=hid (Ai hV0 hB0);clear hgg hqa hqb hm hfr hg0 hgB hl1 hs1 hl2 hs2 hc2 hc20 ho hnB hdB hn0 hd1 hV0 hB0;generalize dg B16 d 0=d0 at *
 rcases hcase with ⟨rfl,hd01⟩ | hk21
 all_goals
  go_enter Tryz.func47,Tryz.ntmps47
  go_upto_region 5 with fail
  generalize w.alloc (.cells #[.bool false,.slice none 0 0,.slice none 0 0] 40)=W0 at *
  go_wp2_with fail
  refine(HG.out _ HV.out.2).mono ?_
  rintro e w1 ⟨v1,rfl,hR1,hB1⟩
  have H1:=hid (Ai hR1 (Ai (HV.out.1.below hB1) (HV.out.2.trans (hB1.mono HV.out.2.size))))
  obtain⟨p3,k3,c3,rfl,hx3⟩:=id hR1
  clear hx3 hR1 hB1 hcell
  go_wp2_with fail
  refine(HD1.out w1 _ H1.out.2.2 H1.out.1).mono ?_
  rintro e w2 ⟨v2,v2',rfl,hR2,_,hB2⟩
  have H2:=hid (Ai hR2 (Ai (H1.out.1.below hB2) (Ai (H1.out.2.1.below hB2) (H1.out.2.2.trans (hB2.mono H1.out.2.2.size)))))
  obtain⟨p4,k4,c4,rfl,hx4⟩:=id hR2
  clear hx4 hR2 hB2 H1
  go_wp2_with fail
  refine(HD2.out w2 _ H2.out.2.2.2 H2.out.2.1).mono ?_
  rintro e w3 ⟨v3,v3',rfl,hR3,_,hB3⟩
  have hV3:=H2.out.2.2.1.below hB3
  have H3:=hid (Ai (H2.out.1.below hB3) (Ai hR3 (Ai hV3 (H2.out.2.2.2.trans (hB3.mono H2.out.2.2.2.size)))))
  obtain⟨p5,k5,c5,rfl,hx5⟩:=id hR3
  obtain⟨x0,x1,x2,y0,y1,y2⟩:=hV3.cells
  clear hx5 hR3 hB3 H2 hV3
  go_wp2_with fail
  exact Make_ret rfl (H3.out.2.2.1.store trivial trivial trivial) ⟨_,rfl,⟨_,_,rfl,H3.out.1.store3 H3.out.2.2.1 _ _ _,H3.out.2.1.store3 H3.out.2.2.1 _ _ _⟩,below_set3 H3.out.2.2.2 (Lr _)⟩
theorem lt_8{x a:Nat}(h:x < B16 ^ a)(hab:a≤800000000):x < B16 ^ 800000000:=by
 generalize 800000000=b at *;exact Nat.lt_of_lt_of_le h (Nat.pow_le_pow_right B16_pos hab)
theorem MakeOK.any{n d a:Nat}(hn:n < B16 ^ a)(hd:d < B16 ^ a)(ha:a≤800000000):MakeOK n d:=by
 by_cases h:n=0∨d≤1
 ·exact MakeOK.short (lt_16 hn (by omega)) h
 ·exact fun s vn vd w h1 h2=>Make_long s vn vd n d w h1 h2 (lt_8 hn ha) (lt_8 hd ha) (by omega) (by omega)
theorem add16_step{x y k c:Nat}(hc:c=(x % B16 ^ k+y % B16 ^ k) / B16 ^ k):
  c≤1∧dg B16 (x+y) k=(dg B16 x k+c+dg B16 y k) % 65536∧(x % B16 ^ (k+1)+y % B16 ^ (k+1)) / B16 ^ (k+1)=(dg B16 x k+c+dg B16 y k) / 65536:=by
 have hP:0 < B16 ^ k:=Nat.pow_pos B16_pos
 have e1:x % B16 ^ (k+1)+y % B16 ^ (k+1)=(x % B16 ^ k+y % B16 ^ k)+B16 ^ k*(dg B16 x k+dg B16 y k):=by
  rw[mod_succ,mod_succ,Nat.mul_add];omega
 have e2:(x % B16 ^ (k+1)+y % B16 ^ (k+1)) / B16 ^ k=dg B16 x k+c+dg B16 y k:=by
  rw[e1,Nat.add_mul_div_left _ _ hP,←hc];omega
 refine⟨?_,?_,?_⟩
 ·rw[hc];have h1:=Nat.mod_lt x hP;have h2:=Nat.mod_lt y hP;have h3:(x % B16 ^ k+y % B16 ^ k) / B16 ^ k < 2:=Nat.div_lt_of_lt_mul (by omega);omega
 ·rw[←e2]
  have e3:x+y=(x % B16 ^ (k+1)+y % B16 ^ (k+1))+B16 ^ (k+1)*(x / B16 ^ (k+1)+y / B16 ^ (k+1)):=by
   have h1:=Nat.mod_add_div x (B16 ^ (k+1));have h2:=Nat.mod_add_div y (B16 ^ (k+1));rw[Nat.mul_add];omega
  unfold dg;rw[show 65536=B16 from rfl]
  have hdiv:(x+y) / B16 ^ k=(x % B16 ^ (k+1)+y % B16 ^ (k+1)) / B16 ^ k+B16*(x / B16 ^ (k+1)+y / B16 ^ (k+1)):=by
   rw[e3,Nat.pow_succ,Nat.mul_assoc (B16 ^ k),Nat.add_mul_div_left _ _ hP]
  rw[hdiv,Nat.add_mul_mod_self_left]
 ·have e4:=Nat.div_div_eq_div_mul (x % B16 ^ (k+1)+y % B16 ^ (k+1)) (B16 ^ k) B16;rw[←Nat.pow_succ] at e4;rw[←e4,e2];rfl
def AddRel (w0:World) (x y n1:Nat) (v cv i:Value) (wr:World):Prop:=∃k c:Nat,i=.int .i64 k∧k≤n1∧cv=.int .u32 c∧c=(x % B16 ^ k+y % B16 ^ k) / B16 ^ k∧Own wr w0.heap.size v k (dg B16 (x+y))∧Bw w0 wr
theorem NatAdd_any(va vb:Value)(x y:Nat)(w:World)(ha:Rep B16 w va x)(hb:Rep B16 w vb y)(hx:x < B16 ^ 1000000000)(hy:y < B16 ^ 1000000000):
  Calls Tryz.prog 137 #[va,vb] w fun e w'=>∃v,e=.returned v∧Rep B16 w' v (x+y)∧Bw w w':=by
 obtain⟨i0,hi,hz0,hz1,hz2⟩:=info_parts Tryz.infoU32;obtain⟨p1,k1,c1,rfl,hk1,hl1,hs1⟩:=ha;obtain⟨p2,k2,c2,rfl,hk2,hl2,hs2⟩:=hb;have hb1:=hl1.le B16_pos hx;have hb2:=hl2.le B16_pos hy;clear hx hy;obtain⟨S0,hS0⟩:∃S,S=x+y:=⟨_,rfl⟩;rw[←hS0];have HR1:=hid (Ai hl1 hs1);have HR2:=hid (Ai hl2 hs2);clear hl1 hs1 hl2 hs2;go_enter Tryz.func137,Tryz.ntmps137;go_upto_if 13 with fail
 go_cut [0,1] from 14 to 15 (fun va vb wx=>wx=w∧∃pa ka ca pb kb cb X Y,va=.slice pa ka ca∧vb=.slice pb kb cb∧kb≤ka∧ka≤1000000000∧ka≤ca∧kb≤cb∧X+Y=S0∧Hid (Len B16 X ka∧Slc w pa ka (dg B16 X))∧Hid (Len B16 Y kb∧Slc w pb kb (dg B16 Y)))
 case first=>
  by_cases h:k1 < k2
  ·have hd:decide ((k1:Int) < (k2:Int))=true:=decide_eq_true (by omega);go_wp2_with fail
   go_meet
   case rel=>exact⟨rfl,_,_,_,_,_,_,y,x,rfl,rfl,by omega,hb2,hk2,hk1,by rw[hS0,Nat.add_comm],HR2,HR1⟩
  ·have hd:decide ((k1:Int) < (k2:Int))=false:=decide_eq_false (by omega);go_wp2_with fail
   go_meet
   case rel=>exact⟨rfl,_,_,_,_,_,_,x,y,rfl,rfl,by omega,hb1,hk1,hk2,hS0.symm,HR1,HR2⟩
 case rest=>
  obtain⟨hwc,pa,ka,ca,pb,kb,cb,X,Y,rfl,rfl,hkk,hka,hca,hcb,hXY,HA,HBb⟩:=hcut;subst hwc;subst hXY;clear hS0 HR1 HR2 hk1 hk2 hb1 hb2;have hmk:∀W:World,(Instr.makeSlice 38 (.int .i64 0) (.int .i64 ((ka:Int)+1))).run Tryz.prog W=.ok (.slice (some ⟨W.heap.size,0,none⟩) 0 (ka+1)) (W.alloc (.cells (madeCells #[.int .u32 0] (ka+1)) 65)):=Tryz.mk0 (ka+1) (by omega);go_wp2_with fail;clear hmk
  go_loopw [5,6,22] (fun v cv i wr=>AddRel wc X Y ka v cv i wr) (fun _ _ i _=>ka - (intOf i).toNat)
  case atStart=>exact⟨0,0,rfl,by omega,rfl,by simp [Nat.mod_one],own_made wc _ (ka+1) (Lr _) (by omega) _,(Br _ _).alloc (Lr _) _⟩
  case round=>
   obtain⟨k,c,rfl,hk,rfl,hc,hown,hB⟩:=hrel
   by_cases hlt:k < ka
   ·obtain⟨b0,o0,rfl,hc0⟩:=HA.out.2.below hB (by omega);have hc1:=hc0 k hlt;obtain⟨q1,q2,q3⟩:=add16_step hc;have hd:=dg_16 X k;have hd2:=dg_16 Y k
    by_cases hlt2:k < kb
    ·obtain⟨b1,o1,rfl,hc2⟩:=HBb.out.2.below hB (by omega);have hc3:=hc2 k hlt2;have HQ:=hid (Ai q2 q3);clear q2 q3 hc0 hc hc2;generalize dg B16 X k=d at *;generalize dg B16 Y k=d2 at *
     have hu1:IntKind.u32.wrap ((d:Int)+(c:Int))=(d:Int)+c:=by rw[IntKind.wrap_u32];omega
     have hu2:IntKind.u32.wrap ((d:Int)+(c:Int)+(d2:Int))=((d+c+d2:Nat):Int):=by rw[IntKind.wrap_u32];omega
     have hcs:(d:Int)+(c:Int)+(d2:Int)=((d+c+d2:Nat):Int):=by omega
     have hS:d+c+d2 < 4294967296:=by omega
     generalize d+c+d2=S at *;have hsize:=hB.size
     have hown1:=fun q hq=>(World.ownsRow.lt hown q hq).1
     have hal:=(show wr.ownsRow wc.heap.size 65 1 u5 k ((List.range k).map (fun j=>Value.int .u32 (dg B16 (X+Y) j:Nat))) from hown).alloc (.cells #[.int .u32 ((S:Int) % 65536)] 65);have HQ2:=hid (Ai hal (Ai hB (Ai hown1 HQ.out)));clear hal hown hB hown1
     go_wp2_with (first
      | (at_builtin;refine wpList_append_own _ rfl _ _ 38 rfl wc.heap.size 65 i0 (.int .u32 0) 1 4 Tryz.underlying38 hi hz0 hz1 hz2 rfl (by decide) _ _ _ rfl HQ2.out.1 ⟨wr.heap.size,0,none⟩ 1 1 [.int .u32 ((S:Int) % 65536)] rfl rfl (cell_one_new _ _ _) (fun x hx=>by simp at hx;subst hx;rfl) (by unfold maxLen;omega) (by omega) (by simp;omega) ?_;intro v' w3 hown' hgrow3 hnil3))
     go_roundw
     case rel=>
      refine⟨k+1,S / 65536,by go_num,by omega,congrArg (Value.int .u32) (by omega),HQ2.out.2.2.2.2.symm,Own.push hown' (by rw[HQ2.out.2.2.2.1];omega),?_⟩;exact(HQ2.out.2.1.alloc hsize _).grown (show(wr.alloc _).grownBy w3 u5.ownBlock from hgrow3) (by rw[World.size_alloc];omega) HQ2.out.2.2.1
     case measure=>simp [intOf];omega
    ·have hy0:dg B16 Y k=0:=dg_zero' B16_pos HBb.out.1.1 (by omega);rw[hy0,Nat.add_zero] at q2 q3;have HQ:=hid (Ai q2 q3);clear q2 q3 hc0 hc hy0 hd2;generalize dg B16 X k=d at *
     have hu1:IntKind.u32.wrap ((d:Int)+(c:Int))=((d+c:Nat):Int):=by rw[IntKind.wrap_u32];omega
     have hcs:(d:Int)+(c:Int)=((d+c:Nat):Int):=by omega
     have hS:d+c < 4294967296:=by omega
     generalize d+c=S at *;have hsize:=hB.size
     have hown1:=fun q hq=>(World.ownsRow.lt hown q hq).1
     have hal:=(show wr.ownsRow wc.heap.size 65 1 u5 k ((List.range k).map (fun j=>Value.int .u32 (dg B16 (X+Y) j:Nat))) from hown).alloc (.cells #[.int .u32 ((S:Int) % 65536)] 65);have HQ2:=hid (Ai hal (Ai hB (Ai hown1 HQ.out)));clear hal hown hB hown1
     go_wp2_with (first
      | (at_builtin;refine wpList_append_own _ rfl _ _ 38 rfl wc.heap.size 65 i0 (.int .u32 0) 1 4 Tryz.underlying38 hi hz0 hz1 hz2 rfl (by decide) _ _ _ rfl HQ2.out.1 ⟨wr.heap.size,0,none⟩ 1 1 [.int .u32 ((S:Int) % 65536)] rfl rfl (cell_one_new _ _ _) (fun x hx=>by simp at hx;subst hx;rfl) (by unfold maxLen;omega) (by omega) (by simp;omega) ?_;intro v' w3 hown' hgrow3 hnil3))
     go_roundw
     case rel=>
      refine⟨k+1,S / 65536,by go_num,by omega,congrArg (Value.int .u32) (by omega),HQ2.out.2.2.2.2.symm,Own.push hown' (by rw[HQ2.out.2.2.2.1];omega),?_⟩;exact(HQ2.out.2.1.alloc hsize _).grown (show(wr.alloc _).grownBy w3 u5.ownBlock from hgrow3) (by rw[World.size_alloc];omega) HQ2.out.2.2.1
     case measure=>simp [intOf];omega
   ·have hk':k=ka:=by omega
    subst hk';have hxk:X < B16 ^ k:=HA.out.1.1;have hyk:Y < B16 ^ k:=Nat.lt_of_lt_of_le HBb.out.1.1 (Nat.pow_le_pow_right B16_pos hkk)
    have hc2:c=(X+Y) / B16 ^ k:=by rw[hc,Nat.mod_eq_of_lt hxk,Nat.mod_eq_of_lt hyk]
    have hP:0 < B16 ^ k:=Nat.pow_pos B16_pos
    have hs2:X+Y < B16 ^ (k+1):=by
     rw[Nat.pow_succ];have h1:B16 ^ k*2≤B16 ^ k*B16:=Nat.mul_le_mul_left _ (by decide);omega
    have hdc:dg B16 (X+Y) k=c:=by rw[dg_top hs2,hc2]
    have hcl:c < 65536:=by rw[←hdc];exact dg_16 _ _
    by_cases h0:c=0
    ·have hgt:decide (0 < c)=false:=decide_eq_false (by omega)
     have hlen:Len B16 (X+Y) k:=by
      refine⟨?_,fun h=>Nat.le_trans (HA.out.1.2 h) (Nat.le_add_right _ _)⟩;rw[h0] at hc2;exact(Nat.div_eq_zero_iff_lt hP).1 hc2.symm
     obtain⟨p3,c3,rfl,hkc,hsl3⟩:=hown.slc;have HF:=hid (Ai hlen (Ai hsl3 hB));subst h0;clear hlen hsl3 hB hown hc hc2 hdc hs2;go_wp2_with fail
     go_ret
     exact⟨_,rfl,⟨p3,k,c3,rfl,hkc,HF.out.1,HF.out.2.1⟩,HF.out.2.2⟩
    ·have hc00:0 < c:=by omega
     have hlen:Len B16 (X+Y) (k+1):=Len.of_top hs2 (by rw[hdc];exact h0);have hsize:=hB.size
     have hown1:=fun q hq=>(World.ownsRow.lt hown q hq).1
     have hal:=(show wr.ownsRow wc.heap.size 65 1 u5 k ((List.range k).map (fun j=>Value.int .u32 (dg B16 (X+Y) j:Nat))) from hown).alloc (.cells #[.int .u32 (c:Int)] 65);have HQ2:=hid (Ai hal (Ai hB (Ai hown1 (Ai hdc hlen))));clear hal hown hB hown1 hdc hlen hc hc2 hs2
     go_wp2_with (first
      | (at_builtin;refine wpList_append_own _ rfl _ _ 38 rfl wc.heap.size 65 i0 (.int .u32 0) 1 4 Tryz.underlying38 hi hz0 hz1 hz2 rfl (by decide) _ _ _ rfl HQ2.out.1 ⟨wr.heap.size,0,none⟩ 1 1 [.int .u32 (c:Int)] rfl rfl (cell_one_new _ _ _) (fun x hx=>by simp at hx;subst hx;rfl) (by unfold maxLen;omega) (by omega) (by simp;omega) ?_;intro v' w3 hown' hgrow3 hnil3))
     have hB3:=(HQ2.out.2.1.alloc hsize _).grown (show(wr.alloc _).grownBy w3 u5.ownBlock from hgrow3) (by rw[World.size_alloc];omega) HQ2.out.2.2.1;have hO3:Own w3 wc.heap.size v' (k+1) (dg B16 (X+Y)):=Own.push hown' (by rw[HQ2.out.2.2.2.1]);obtain⟨p3,c3,rfl,hkc,hsl3⟩:=hO3.slc;have HF:=hid (Ai hsl3 hB3);clear hown' hgrow3 hnil3 hO3 hsl3 hB3;go_wp2_with fail
     go_ret
     exact⟨_,rfl,⟨p3,k+1,c3,rfl,hkc,HQ2.out.2.2.2.2,HF.out.1⟩,HF.out.2⟩
def owed (x y k:Nat):Nat:=((x - y) % B16 ^ k+y % B16 ^ k) / B16 ^ k
theorem owed_eq{x y k:Nat}(h:y≤x):(x - y) % B16 ^ k+y % B16 ^ k=x % B16 ^ k+B16 ^ k*owed x y k:=by
 have e:((x - y) % B16 ^ k+y % B16 ^ k) % B16 ^ k=x % B16 ^ k:=by rw[←Nat.add_mod,Nat.sub_add_cancel h]
 have h1:=Nat.mod_add_div ((x - y) % B16 ^ k+y % B16 ^ k) (B16 ^ k);rw[e] at h1;exact h1.symm
theorem owed_le{x y k:Nat}:owed x y k≤1:=by
 have hP:0 < B16 ^ k:=Nat.pow_pos B16_pos;have h1:=Nat.mod_lt (x - y) hP;have h2:=Nat.mod_lt y hP;have h3:((x - y) % B16 ^ k+y % B16 ^ k) / B16 ^ k < 2:=Nat.div_lt_of_lt_mul (by omega);unfold owed;omega
theorem sub16_step{x y k:Nat}(h:y≤x):dg B16 (x - y) k+(owed x y k+dg B16 y k)=dg B16 x k+65536*owed x y (k+1):=by
 have hP:0 < B16 ^ k:=Nat.pow_pos B16_pos;have e1:=owed_eq (k:=k) h;have e2:=owed_eq (k:=k+1) h;rw[mod_succ,mod_succ,mod_succ,Nat.pow_succ,Nat.mul_assoc] at e2
 have e3:B16 ^ k*(dg B16 (x - y) k+(owed x y k+dg B16 y k))=B16 ^ k*(dg B16 x k+B16*owed x y (k+1)):=by
  simp only[Nat.mul_add];omega
 exact Nat.eq_of_mul_eq_mul_left hP e3
theorem sub16_cases{d g o l o':Nat}(hd:d < 65536)(hg:g < 65536)(ho:o'≤1)(h:g+l=d+65536*o'):(d < l∧o'=1∧g=d+65536 - l)∨(¬d < l∧o'=0∧g=d - l):=by
 have _:=o
 rcases Nat.lt_or_ge d l with h1 | h1
 ·left;refine⟨h1,?_,?_⟩<;>omega
 ·right;refine⟨by omega,?_,?_⟩<;>omega
theorem owed_zero{x y:Nat}:owed x y 0=0:=by unfold owed;simp [Nat.mod_one]
def SubRel (w0:World) (x y n1:Nat) (v cv i:Value) (wr:World):Prop:=∃k c:Nat,i=.int .i64 k∧k≤n1∧cv=.int .u32 c∧c=owed x y k∧Own wr w0.heap.size v k (dg B16 (x - y))∧Bw w0 wr
theorem NatSub_any(va vb:Value)(x y:Nat)(w:World)(ha:Rep B16 w va x)(hb:Rep B16 w vb y)(hx:x < B16 ^ 1000000000)(hyx:y≤x):
  Calls Tryz.prog 160 #[va,vb] w fun e w'=>∃v,e=.returned v∧Rep B16 w' v (x - y)∧Bw w w':=by
 obtain⟨i0,hi,hz0,hz1,hz2⟩:=info_parts Tryz.infoU32;obtain⟨pa,ka,ca,rfl,hk1,hl1,hs1⟩:=ha;obtain⟨pb,kb,cb,rfl,hk2,hl2,hs2⟩:=hb;have hb1:=hl1.le B16_pos hx;have hb2:=hl2.le B16_pos (Nat.lt_of_le_of_lt hyx hx);have HA:=hid (Ai hl1 hs1);have HBb:=hid (Ai hl2 hs2);have HYX:=hid hyx;clear hx hl1 hs1 hl2 hs2 hyx;have hmk:∀W:World,(Instr.makeSlice 38 (.int .i64 0) (.int .i64 (ka:Int))).run Tryz.prog W=.ok (.slice (some ⟨W.heap.size,0,none⟩) 0 ka) (W.alloc (.cells (madeCells #[.int .u32 0] ka) 65)):=Tryz.mk0 ka (by omega);go_enter Tryz.func160,Tryz.ntmps160;go_wp2_with fail;clear hmk
 go_loopw [5,6,15] (fun v cv i wr=>SubRel w x y ka v cv i wr) (fun _ _ i _=>ka - (intOf i).toNat)
 case atStart=>exact⟨0,0,rfl,by omega,rfl,owed_zero.symm,own_made w _ ka (Lr _) (by omega) _,(Br _ _).alloc (Lr _) _⟩
 case round=>
  obtain⟨k,c,rfl,hk,rfl,hc,hown,hB⟩:=hrel
  by_cases hlt:k < ka
  ·obtain⟨b0,o0,rfl,hc0⟩:=HA.out.2.below hB (by omega);have hc1:=hc0 k hlt;have hst:=sub16_step (k:=k) HYX.out;rw[←hc] at hst
   have hcl:c≤1:=by rw[hc];exact owed_le
   have hd:=dg_16 x k;have hd2:=dg_16 y k;obtain⟨l,hl⟩:∃l,l=c+dg B16 y k:=⟨_,rfl⟩;rw[←hl] at hst;have hcs:=sub16_cases (o:=c) hd (dg_16 (x - y) k) owed_le hst
   have hll:l≤65536:=by omega
   have HL:=hid hl;clear hst hc0 hc hl;obtain⟨on,hon⟩:∃on,on=owed x y (k+1):=⟨_,rfl⟩;rw[←hon] at hcs;obtain⟨gd,hgd⟩:∃gd,gd=dg B16 (x - y) k:=⟨_,rfl⟩;rw[←hgd] at hcs;have hsize:=hB.size
   have hown1:=fun q hq=>(World.ownsRow.lt hown q hq).1
   have HQ:=hid (Ai hown (Ai hB (Ai hown1 (Ai hgd hon))));clear hown hB hown1 hgd hon
   by_cases hlt2:k < kb
   ·obtain⟨b1,o1,rfl,hc2⟩:=HBb.out.2.below HQ.out.2.1 (by omega);have hc3:=hc2 k hlt2;clear hc2;generalize dg B16 x k=d at *;generalize dg B16 y k=d2 at *
    have hu1:IntKind.u32.wrap ((c:Int)+(d2:Int))=(l:Int):=by rw[IntKind.wrap_u32,HL.out];omega
    have hcl2:(c:Int)+(d2:Int)=(l:Int):=by rw[HL.out];omega
    rcases hcs with ⟨h1,rfl,h3⟩ | ⟨h1,rfl,h3⟩
    ·have hdl:decide (d < l)=true:=decide_eq_true h1
     have hu2:IntKind.u32.wrap ((d:Int)+65536)=(d:Int)+65536:=by rw[IntKind.wrap_u32];omega
     have hu3:IntKind.u32.wrap ((d:Int)+65536 - (l:Int))=(gd:Int):=by rw[IntKind.wrap_u32,h3];omega
     have hu4:(d:Int)+65536 - (l:Int)=(gd:Int):=by rw[h3];omega
     have hgl:gd < 65536:=by omega
     clear h3;have hal:=(show wr.ownsRow w.heap.size 65 1 u5 k ((List.range k).map (fun j=>Value.int .u32 (dg B16 (x - y) j:Nat))) from HQ.out.1).alloc (.cells #[.int .u32 (gd:Int)] 65);have HAL:=hid hal;clear hal
     go_wp2_with (first
      | (at_builtin;refine wpList_append_own _ rfl _ _ 38 rfl w.heap.size 65 i0 (.int .u32 0) 1 4 Tryz.underlying38 hi hz0 hz1 hz2 rfl (by decide) _ _ _ rfl HAL.out ⟨wr.heap.size,0,none⟩ 1 1 [.int .u32 (gd:Int)] rfl rfl (cell_one_new _ _ _) (fun x hx=>by simp at hx;subst hx;rfl) (by unfold maxLen;omega) (by omega) (by simp;omega) ?_;intro v' w3 hown' hgrow3 hnil3))
     go_roundw
     case rel=>
      refine⟨k+1,1,by go_num,by omega,rfl,HQ.out.2.2.2.2,Own.push hown' (by rw[HQ.out.2.2.2.1]),?_⟩;exact(HQ.out.2.1.alloc hsize _).grown (show(wr.alloc _).grownBy w3 u5.ownBlock from hgrow3) (by rw[World.size_alloc];omega) HQ.out.2.2.1
     case measure=>simp [intOf];omega
    ·have hdl:decide (d < l)=false:=decide_eq_false h1
     have hu3:IntKind.u32.wrap ((d:Int) - (l:Int))=(gd:Int):=by rw[IntKind.wrap_u32,h3];omega
     have hu4:(d:Int) - (l:Int)=(gd:Int):=by rw[h3];omega
     have hgl:gd < 65536:=by omega
     clear h3;have hal:=(show wr.ownsRow w.heap.size 65 1 u5 k ((List.range k).map (fun j=>Value.int .u32 (dg B16 (x - y) j:Nat))) from HQ.out.1).alloc (.cells #[.int .u32 (gd:Int)] 65);have HAL:=hid hal;clear hal
     go_wp2_with (first
      | (at_builtin;refine wpList_append_own _ rfl _ _ 38 rfl w.heap.size 65 i0 (.int .u32 0) 1 4 Tryz.underlying38 hi hz0 hz1 hz2 rfl (by decide) _ _ _ rfl HAL.out ⟨wr.heap.size,0,none⟩ 1 1 [.int .u32 (gd:Int)] rfl rfl (cell_one_new _ _ _) (fun x hx=>by simp at hx;subst hx;rfl) (by unfold maxLen;omega) (by omega) (by simp;omega) ?_;intro v' w3 hown' hgrow3 hnil3))
     go_roundw
     case rel=>
      refine⟨k+1,0,by go_num,by omega,rfl,HQ.out.2.2.2.2,Own.push hown' (by rw[HQ.out.2.2.2.1]),?_⟩;exact(HQ.out.2.1.alloc hsize _).grown (show(wr.alloc _).grownBy w3 u5.ownBlock from hgrow3) (by rw[World.size_alloc];omega) HQ.out.2.2.1
     case measure=>simp [intOf];omega
   ·have hy0:dg B16 y k=0:=dg_zero' B16_pos HBb.out.1.1 (by omega)
    have hlc:l=c:=by rw[HL.out,hy0,Nat.add_zero]
    subst hlc;clear hy0 hd2;generalize dg B16 x k=d at *
    rcases hcs with ⟨h1,rfl,h3⟩ | ⟨h1,rfl,h3⟩
    ·have hdl:decide (d < l)=true:=decide_eq_true h1
     have hu2:IntKind.u32.wrap ((d:Int)+65536)=(d:Int)+65536:=by rw[IntKind.wrap_u32];omega
     have hu3:IntKind.u32.wrap ((d:Int)+65536 - (l:Int))=(gd:Int):=by rw[IntKind.wrap_u32,h3];omega
     have hu4:(d:Int)+65536 - (l:Int)=(gd:Int):=by rw[h3];omega
     have hgl:gd < 65536:=by omega
     clear h3;have hal:=(show wr.ownsRow w.heap.size 65 1 u5 k ((List.range k).map (fun j=>Value.int .u32 (dg B16 (x - y) j:Nat))) from HQ.out.1).alloc (.cells #[.int .u32 (gd:Int)] 65);have HAL:=hid hal;clear hal
     go_wp2_with (first
      | (at_builtin;refine wpList_append_own _ rfl _ _ 38 rfl w.heap.size 65 i0 (.int .u32 0) 1 4 Tryz.underlying38 hi hz0 hz1 hz2 rfl (by decide) _ _ _ rfl HAL.out ⟨wr.heap.size,0,none⟩ 1 1 [.int .u32 (gd:Int)] rfl rfl (cell_one_new _ _ _) (fun x hx=>by simp at hx;subst hx;rfl) (by unfold maxLen;omega) (by omega) (by simp;omega) ?_;intro v' w3 hown' hgrow3 hnil3))
     go_roundw
     case rel=>
      refine⟨k+1,1,by go_num,by omega,rfl,HQ.out.2.2.2.2,Own.push hown' (by rw[HQ.out.2.2.2.1]),?_⟩;exact(HQ.out.2.1.alloc hsize _).grown (show(wr.alloc _).grownBy w3 u5.ownBlock from hgrow3) (by rw[World.size_alloc];omega) HQ.out.2.2.1
     case measure=>simp [intOf];omega
    ·have hdl:decide (d < l)=false:=decide_eq_false h1
     have hu3:IntKind.u32.wrap ((d:Int) - (l:Int))=(gd:Int):=by rw[IntKind.wrap_u32,h3];omega
     have hu4:(d:Int) - (l:Int)=(gd:Int):=by rw[h3];omega
     have hgl:gd < 65536:=by omega
     clear h3;have hal:=(show wr.ownsRow w.heap.size 65 1 u5 k ((List.range k).map (fun j=>Value.int .u32 (dg B16 (x - y) j:Nat))) from HQ.out.1).alloc (.cells #[.int .u32 (gd:Int)] 65);have HAL:=hid hal;clear hal
     go_wp2_with (first
      | (at_builtin;refine wpList_append_own _ rfl _ _ 38 rfl w.heap.size 65 i0 (.int .u32 0) 1 4 Tryz.underlying38 hi hz0 hz1 hz2 rfl (by decide) _ _ _ rfl HAL.out ⟨wr.heap.size,0,none⟩ 1 1 [.int .u32 (gd:Int)] rfl rfl (cell_one_new _ _ _) (fun x hx=>by simp at hx;subst hx;rfl) (by unfold maxLen;omega) (by omega) (by simp;omega) ?_;intro v' w3 hown' hgrow3 hnil3))
     go_roundw
     case rel=>
      refine⟨k+1,0,by go_num,by omega,rfl,HQ.out.2.2.2.2,Own.push hown' (by rw[HQ.out.2.2.2.1]),?_⟩;exact(HQ.out.2.1.alloc hsize _).grown (show(wr.alloc _).grownBy w3 u5.ownBlock from hgrow3) (by rw[World.size_alloc];omega) HQ.out.2.2.1
     case measure=>simp [intOf];omega
  ·have hk':k=ka:=by omega
   subst hk';have hz:x - y < B16 ^ k:=Nat.lt_of_le_of_lt (Nat.sub_le _ _) HA.out.1.1;obtain⟨p3,c3,rfl,hkc,hsl3⟩:=hown.slc;have htr:=hid (trim_any p3 k c3 (x - y) wr (by omega) hkc hz hsl3);have HF:=hid (Ai hsl3 hB);clear hown hsl3 hB hz hc;go_wp2_with fail;refine htr.out.mono ?_;rintro e w' ⟨m,rfl,hm,hlen,rfl⟩;clear htr;go_wp2_with fail
   go_ret
   exact⟨_,rfl,⟨_,_,_,rfl,by omega,hlen,HF.out.1.take hm⟩,HF.out.2⟩
end Go.Proofs.YteblinkehldghaaGreatDoor
