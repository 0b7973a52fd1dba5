/- The natural numbers of the specification: digit. -/
import Derived.Test.YteblinkehldghaaGreatDoorRefN
import Derived.Laws.Bits128
set_option maxHeartbeats 4000000
set_option maxRecDepth 100000
namespace Go.Proofs.YteblinkehldghaaGreatDoor
open Go.RowKit Dg
open And renaming intro→Ai
open Below renaming refl→Br
theorem i64_and16(n:Int):bits .and .i64 n 65535=n % 65536:=by
 have h127:(BitVec.ofInt 64 65535).toNat=2 ^ 16 - 1:=by decide
 have key:(BitVec.ofInt 64 n &&& BitVec.ofInt 64 65535).toNat=(n % ((2 ^ 64:Nat):Int)).toNat % 2 ^ 16:=by
  rw[BitVec.toNat_and,BitVec.toNat_ofInt,h127,Nat.and_two_pow_sub_one_eq_mod]
 show IntKind.i64.wrap ((BitVec.ofInt 64 n &&& BitVec.ofInt 64 65535).toNat:Nat)=n % 65536;rw[key,IntKind.wrap_i64];omega
theorem guess_ge{P V m:Nat}(hm:0 < m)(hV:Len B16 V m)(hP:P < B16*V):P / V≤(dg B16 P m*65536+dg B16 P (m - 1)) / dg B16 V (m - 1):=by
 obtain⟨t,rfl⟩:∃t,m=t+1:=⟨m - 1,by omega⟩;rw[show t+1 - 1=t by omega];have ht:=hV.top B16_pos hm;rw[show t+1 - 1=t by omega] at ht
 have hPm:P < B16 ^ (t+2):=by
  have h1:B16*V < B16*B16 ^ (t+1):=Nat.mul_lt_mul_of_pos_left hV.1 B16_pos;rw[Nat.pow_succ,Nat.mul_comm (B16 ^ (t+1))];omega
 have e1:P / B16 ^ t=dg B16 P (t+1)*65536+dg B16 P t:=by
  have h:=div_succ B16 P t;rw[←dg_top hPm] at h;rw[h,B16_val];omega
 have e2:dg B16 V t=V / B16 ^ t:=dg_top hV.1;rw[←e1,Nat.le_div_iff_mul_le (Nat.pos_of_ne_zero ht),e2,Nat.le_div_iff_mul_le (Nat.pow_pos B16_pos)]
 calc P / V*(V / B16 ^ t)*B16 ^ t=P / V*(V / B16 ^ t*B16 ^ t):=Nat.mul_assoc _ _ _
  _≤P / V*V:=Nat.mul_le_mul_left _ (Nat.div_mul_le_self _ _)
  _≤P:=Nat.div_mul_le_self _ _
theorem owe_step(p N:Nat)(hp:p < 65536)(hN:N≤65535*65536):∃t b:Nat,t < 65536∧b≤65535∧((p:Int) - N) % 65536=t∧((p:Int) - N) / 65536=-(b:Int)∧t+N=p+65536*b:=
 ⟨(((p:Int) - N) % 65536).toNat,(-(((p:Int) - N) / 65536)).toNat,by omega,by omega,by omega,by omega,by omega⟩
theorem owe_round{X P V G j t b b':Nat}(h:X+G*(V % B16 ^ j)=P % B16 ^ j+B16 ^ j*b)(hs:t+(b+G*dg B16 V j)=dg B16 P j+65536*b'):
  (X+B16 ^ j*t)+G*(V % B16 ^ (j+1))=P % B16 ^ (j+1)+B16 ^ (j+1)*b':=by
 rw[mod_succ,mod_succ,Nat.pow_succ,Nat.mul_add,Nat.mul_assoc (B16 ^ j)]
 have e1:G*(B16 ^ j*dg B16 V j)=B16 ^ j*(G*dg B16 V j):=by grind
 have e2:B16 ^ j*(t+(b+G*dg B16 V j))=B16 ^ j*(dg B16 P j+65536*b'):=by rw[hs]
 rw[e1];rw[show B16*b'=65536*b' from rfl];simp only[Nat.mul_add] at e2 ⊢;omega
theorem owe_end{X P V b m:Nat}(hV:V < B16 ^ m)(hP:P < B16 ^ (m+1))(hX:X < B16 ^ (m+1))(h:X+P / V*(V % B16 ^ (m+1))=P % B16 ^ (m+1)+B16 ^ (m+1)*b):X=P % V:=by
 have hV2:V < B16 ^ (m+1):=Nat.lt_of_lt_of_le hV (Nat.pow_le_pow_right B16_pos (by omega));rw[Nat.mod_eq_of_lt hV2,Nat.mod_eq_of_lt hP] at h;have h1:=Nat.div_add_mod P V;rw[Nat.mul_comm] at h1
 have hb:b=0:=by
  rcases Nat.eq_zero_or_pos b with h0 | h0
  ·exact h0
  ·have:B16 ^ (m+1)≤B16 ^ (m+1)*b:=Nat.le_mul_of_pos_right _ h0;omega
 subst hb;omega
def GuessRel (w0:World) (q:Nat) (g:Value) (wr:World):Prop:=∃G:Nat,g=.int .u64 G∧q≤G∧G < 65536∧Bw w0 wr
def DigRel (w1:World) (b0 L D i m G V:Nat) (ov ct:Value) (w:World):Prop:=
 ∃j bb X:Nat,j≤m+1∧ct=.int .i64 j∧ov=.int .i64 (-(bb:Int))∧X < B16 ^ j∧X+G*(V % B16 ^ j)=(D / B16 ^ i) % B16 ^ j+B16 ^ j*bb∧bb≤65535∧But b0 w1 w∧URow w b0 L (mixe D i j X (D / B16 ^ i))
theorem digit_any(b0 i m cap L D V b1 o1 cb:Nat)(w:World)(hm0:0 < m)(hm:m≤900000000)(hi:i+(m+1)≤L)(hcap:m+1≤cap)(hcb:m≤cb)(hne:b1≠b0)(hrow:URow w b0 L D)(hV:Len B16 V m)
  (hs:Slc w (some ⟨b1,o1,none⟩) m (dg B16 V))(hP:D / B16 ^ i < B16*V):
  Calls Tryz.prog 127 #[.slice (some ⟨b0,i,none⟩) (m+1:Nat) cap,.slice (some ⟨b1,o1,none⟩) m cb] w
   fun e w'=>e=.returned (.int .u32 (D / B16 ^ i / V:Nat))∧But b0 w w'∧URow w' b0 L (D % B16 ^ i+B16 ^ i*(D / B16 ^ i % V)):=by
 have hPm:D / B16 ^ i < B16 ^ (m+1):=by
  have h1:B16*V < B16*B16 ^ m:=Nat.mul_lt_mul_of_pos_left hV.1 B16_pos;rw[Nat.pow_succ,Nat.mul_comm (B16 ^ m)];omega
 have hVpos:0 < V:=hV.pos B16_pos hm0
 have hq:D / B16 ^ i / V < 65536:=by
  rw[Nat.div_lt_iff_lt_mul hVpos];exact hP
 have hge:=guess_ge hm0 hV hP;have hc1:=hrow.cell (show i+m < L by omega);have hc2:=hrow.cell (show i+(m - 1) < L by omega);rw[←dg_div_pow] at hc1 hc2;obtain⟨bx,ox,hpx,hcx⟩:=hs hm0;simp only[Option.some.injEq,Addr.mk.injEq,and_true] at hpx;obtain⟨rfl,rfl⟩:=hpx;have hc3:=hcx (m - 1) (by omega);have ht:=hV.top B16_pos hm0;have hp1:=dg_16 (D / B16 ^ i) m;have hp2:=dg_16 (D / B16 ^ i) (m - 1);have hp3:=dg_16 V (m - 1);have hlessU:=hid (fun (W:World) (G:Nat) (hB:Bw w W) (hG:G < 65536)=>less_any b0 i (m+1) cap (D / B16 ^ i) (.slice (some ⟨b1,o1,none⟩) m cb) V G W (by omega) hcap hPm ((hrow.slc hi).below hB) ⟨_,_,_,rfl,hcb,hV,hs.below hB⟩ (lt_16' hV.1 hm) hG);have HS:=hid (Ai hrow (Ai hs (Ai hV (Ai hPm hcx))))
 have hdecq:=hid (fun (G:Nat) (h:D / B16 ^ i / V≤G)=>show decide (D / B16 ^ i < V*G)=decide (D / B16 ^ i / V < G) by
  have e:(D / B16 ^ i < V*G)↔(D / B16 ^ i / V < G):=by rw[Nat.div_lt_iff_lt_mul hVpos,Nat.mul_comm]
  exact decide_eq_decide.2 e)
 clear hrow hs hP hcx hPm hVpos;generalize dg B16 (D / B16 ^ i) m=e1 at *;generalize dg B16 (D / B16 ^ i) (m - 1)=e2 at *;generalize dg B16 V (m - 1)=e3 at *
 have em:((m:Int) - 1)=((m - 1:Nat):Int):=by omega
 go_enter Tryz.func127,Tryz.ntmps127
 have he3:(e3:Int)≠0:=by omega
 obtain⟨Q0,hQ0⟩:∃Q0,Q0=(e1*65536+e2) / e3:=⟨_,rfl⟩
 have hQl:Q0 < 4294967296:=by rw[hQ0];exact Nat.lt_of_le_of_lt (Nat.div_le_self _ _) (show e1*65536+e2 < 4294967296 by omega)
 have hdv:((e1:Int)*65536+e2) / e3=(Q0:Int):=by rw[hQ0];exact(cast_quo16 e1 e2 e3).symm
 rw[←hQ0] at hge;have HGE:=hid (Ai hge (Ai hQl hq));clear hQ0 hge hq;go_wp2_with fail
 go_quiet (fail)
 go_upto_region 4 with fail;rw[hdv];have HB0:=hid (below_drewN (Br w.heap.size w) nq);generalize w.drewN nq=W0 at *;obtain⟨hge,_,hq⟩:=HGE.out;clear HGE hdv hc1 hc2 hc3 hp1 hp2 hp3 he3 ht em;obtain⟨q,hqq⟩:∃q,q=D / B16 ^ i / V:=⟨_,rfl⟩;rw[←hqq] at hq hge hdecq;have HQ:=hid hqq;clear hqq
 by_cases h6:65536≤Q0
 case' pos=>have h7:decide ((65536:Int)≤(Q0:Int))=true:=decide_eq_true (by omega)
 case' neg=>have h7:decide ((65536:Int)≤(Q0:Int))=false:=decide_eq_false (by omega)
 all_goals
  go_wp2_with fail
  go_loopw [7] (GuessRel W0 q) (fun g _=>(intOf g).toNat)
  case atStart=>first | exact⟨Q0,rfl,by omega,by omega,Br _ _⟩ | exact⟨65535,rfl,by omega,by omega,Br _ _⟩
  case round=>
   obtain⟨G,rfl,hG1,hG2,hGB⟩:=hrel;have hl:=hid (hlessU.out wr G (HB0.out.trans (hGB.mono HB0.out.size)) hG2)
   by_cases hgq:q < G
   ·have hl2:=hl;rw[hdecq.out G hG1,decide_eq_true hgq] at hl2;clear hl
    have hdc:IntKind.u64.wrap ((G:Int) - 1)=((G - 1:Nat):Int):=by simp [IntKind.wrap,IntKind.bits,IntKind.signed];omega
    have HG:=hid (Ai hG1 (Ai hG2 hgq));clear hG1 hG2 hgq hge hq hm hi hcap hcb hm0 hQl h6;go_wp2_with fail;refine hl2.out.mono ?_;rintro e w2 ⟨rfl,hB2⟩;have HB2:=hid (hGB.trans (hB2.mono hGB.size));clear hl2 hGB hB2;go_wp2_with fail
    go_roundw
    case rel=>exact⟨G - 1,rfl,by have:=HG.out;omega,by have:=HG.out;omega,HB2.out⟩
    case measure=>have:=HG.out;simp [intOf];omega
   ·have hGq:G=q:=by omega
    subst hGq;have hl2:=hl;rw[hdecq.out G hG1,decide_eq_false hgq] at hl2;have HX:=hid (Ai (Ai hi hne) (Ai hm (Ai hcb (Ai hG2 hm0))));clear hl hG1 hgq hge h6 hQl hcap hcb hm0 hV hlessU hdecq;go_wp2_with fail;refine hl2.out.mono ?_;rintro e w2 ⟨rfl,hB2⟩;have HB2:=hid (HB0.out.trans ((hGB.trans (hB2.mono hGB.size)).mono HB0.out.size));clear hl2 hGB hB2 HB0;go_wp2_with fail
    have hlen:((m+1:Nat):Int)=(m:Int)+1:=by omega
    go_loopw [8,44] (DigRel w2 b0 L D i m G V) (fun _ ct _=>m+1 - (intOf ct).toNat)
    case atStart=>exact⟨0,0,0,by omega,rfl,rfl,by simp,by simp [Nat.mod_one],by omega,But.refl _ _,by rw[mixe_start];exact HS.out.1.below HB2.out⟩
    case round=>
     obtain⟨j,bb,X,hj,rfl,rfl,hX,hXe,hbb,hBut,hRow⟩:=hrel
     by_cases hlt:j < m+1
     ·have hcell:=hRow.cell (show i+j < L by have:=HX.out.1.1;omega);rw[dg_mixe hX] at hcell;have hfrz:=hRow.frozen (i+j);have hd:=dg_16 (D / B16 ^ i) j;have hv:=dg_16 V j
      by_cases hjm:j < m
      ·have hcv:wr.cell? ⟨b1,o1+j,none⟩=some (.int .u32 (dg B16 V j:Nat)):=by
        rw[hBut.cell (p:=⟨b1,o1+j,none⟩) HX.out.1.2 (World.block_lt_of_cell? _ _ (show w2.cell? ⟨b1,o1+j,none⟩=_ by rw[HB2.out.cell (p:=⟨b1,o1+j,none⟩) (World.block_lt_of_cell? _ _ (HS.out.2.2.2.2 j hjm))];exact HS.out.2.2.2.2 j hjm)),HB2.out.cell (p:=⟨b1,o1+j,none⟩) (World.block_lt_of_cell? _ _ (HS.out.2.2.2.2 j hjm))];exact HS.out.2.2.2.2 j hjm
       have hgv:G*dg B16 V j≤65535*65535:=Nat.mul_le_mul (by omega) (by omega);obtain⟨t,b',ht,hb',hmod,hdiv,hsum⟩:=owe_step (dg B16 (D / B16 ^ i) j) (bb+G*dg B16 V j) hd (by omega)
       have HR:=hid (Ai (owe_round hXe hsum) (Ai (add_lt hX (show t < B16 from ht)) (Ai (hBut.setCell (i+j) (.int .u32 (t:Nat))) (Ai hb' (by
        have h:=hRow.set (k:=i+j) (s:=t) (show i+j < L by have:=HX.out.1.1;omega) ht;rw[mixe_set hX] at h
        exact h)))))
       have HJ:=hid (Ai hlt hbb);obtain⟨S,hS⟩:∃S:Int,S=(dg B16 (D / B16 ^ i) j:Int)+-(bb:Int) - (G:Int)*(dg B16 V j:Int):=⟨_,rfl⟩
       have hSN:(dg B16 (D / B16 ^ i) j:Int) - ((bb+G*dg B16 V j:Nat):Int)=S:=by rw[hS,Int.natCast_add,Int.natCast_mul];omega
       rw[hSN] at hmod hdiv;have hgv2:(G:Int)*(dg B16 V j:Int)=((G*dg B16 V j:Nat):Int):=(Int.natCast_mul _ _).symm
       have hgv3:((G*dg B16 V j:Nat):Int)≤65535*65535:=by omega
       have hgv4:(0:Int)≤((G*dg B16 V j:Nat):Int):=by omega
       have hw1:IntKind.i64.wrap ((dg B16 (D / B16 ^ i) j:Int)+-(bb:Int))=(dg B16 (D / B16 ^ i) j:Int)+-(bb:Int):=by simp [IntKind.wrap,IntKind.bits,IntKind.signed];omega
       have hw2:IntKind.i64.wrap ((G:Int)*(dg B16 V j:Int))=(G:Int)*(dg B16 V j:Int):=by rw[hgv2,IntKind.wrap_i64];omega
       have hw3:IntKind.i64.wrap ((dg B16 (D / B16 ^ i) j:Int)+-(bb:Int) - (G:Int)*(dg B16 V j:Int))=S:=by rw[hS,hgv2,IntKind.wrap_i64];omega
       have hand:bits .and .i64 S 65535=(t:Int):=by rw[i64_and16,hmod]
       clear hX hXe hsum hRow hBut hgv hgv2 hgv3 hgv4 hSN hS hmod hbb;generalize dg B16 (D / B16 ^ i) j=p at *;generalize dg B16 V j=v at *;go_wp2_with fail
       go_roundw
       case rel=>exact⟨j+1,b',_,by have:=HJ.out.1;omega,by go_num,rfl,HR.out.2.1,HR.out.1,HR.out.2.2.2.1,HR.out.2.2.1,HR.out.2.2.2.2⟩
       case measure=>have:=HJ.out.1;simp [intOf];omega
      ·have hv0:dg B16 V j=0:=dg_zero' B16_pos HS.out.2.2.1.1 (by omega);obtain⟨t,b',ht,hb',hmod,hdiv,hsum⟩:=owe_step (dg B16 (D / B16 ^ i) j) bb hd (by omega)
       have HR:=hid (Ai (owe_round (G:=G) (V:=V) (t:=t) (b':=b') hXe (by rw[hv0,Nat.mul_zero,Nat.add_zero];exact hsum)) (Ai (add_lt hX (show t < B16 from ht)) (Ai (hBut.setCell (i+j) (.int .u32 (t:Nat))) (Ai hb' (by
        have h:=hRow.set (k:=i+j) (s:=t) (show i+j < L by have:=HX.out.1.1;omega) ht;rw[mixe_set hX] at h
        exact h)))))
       have HJ:=hid (Ai hlt hbb);obtain⟨S,hS⟩:∃S:Int,S=(dg B16 (D / B16 ^ i) j:Int)+-(bb:Int):=⟨_,rfl⟩
       have hSN:(dg B16 (D / B16 ^ i) j:Int) - (bb:Int)=S:=by rw[hS];omega
       rw[hSN] at hmod hdiv
       have hw1:IntKind.i64.wrap ((dg B16 (D / B16 ^ i) j:Int)+-(bb:Int))=S:=by rw[hS,IntKind.wrap_i64];omega
       have hand:bits .and .i64 S 65535=(t:Int):=by rw[i64_and16,hmod]
       clear hX hXe hsum hRow hBut hSN hS hmod hbb hv0 hv;generalize dg B16 (D / B16 ^ i) j=p at *;go_wp2_with fail
       go_roundw
       case rel=>exact⟨j+1,b',_,by have:=HJ.out.1;omega,by go_num,rfl,HR.out.2.1,HR.out.1,HR.out.2.2.2.1,HR.out.2.2.1,HR.out.2.2.2.2⟩
       case measure=>have:=HJ.out.1;simp [intOf];omega
     ·have hjm:j=m+1:=by omega
      subst hjm
      have HE:Hid (But b0 w wr∧URow wr b0 L (D % B16 ^ i+B16 ^ i*(D / B16 ^ i % V))):=by
       have hq2:=HQ.out;rw[hq2] at hXe;have hXE:=owe_end HS.out.2.2.1.1 HS.out.2.2.2.1 hX hXe;rw[hXE,mixe_end HS.out.2.2.2.1] at hRow;exact hid ⟨(But.of_below HB2.out).trans hBut,hRow⟩
      clear hX hXe hRow hBut;go_wp2_with fail
      go_ret
      exact⟨by rw[←HQ.out];first | rfl | (congr 2;omega),HE.out.1,HE.out.2⟩
theorem But.below{b B:Nat}{w0 w w':World}(h:But b w w')(hB:B≤b)(hb:Below B w0 w)(hs:B≤w.heap.size):Below B w0 w':=
 hb.trans ⟨h.os,h.tape,h.output,h.size,fun k hk=>h.block k (by omega) (by omega)⟩
theorem URow.but{b c L D:Nat}{w w':World}(h:But b w w')(hc:c≠b)(hr:URow w c L D):URow w' c L D:=by
 obtain⟨cur,h0,h1⟩:=hr;exact⟨cur,by rw[h.block c (Array.getElem?_eq_some_iff.1 h0).1 hc];exact h0,h1⟩
theorem own_urow{w:World}{base:Nat}{v:Value}{n x:Nat}(h:Own w base v n (dg B16 x))(hn:0 < n):∃g cap,v=.slice (some ⟨g,0,none⟩) n cap∧base≤g∧n≤cap∧cap≤maxLen∧URow w g n x:=by
 obtain⟨_,h2⟩:=h
 rcases h2 with ⟨_,h0⟩ | ⟨g,cap,cur,hv,hb,hg,hc,hm,hs,ht⟩
 ·omega
 ·refine⟨g,cap,hv,hb,hc,hm,cur,hg,fun j hj=>?_⟩;rw[Nat.mul_one] at ht;have h3:=congrArg (fun l=>l[j]?) ht;simp only[List.getElem?_take_of_lt hj,List.getElem?_map,List.getElem?_range hj,Option.map_some] at h3;rw[←Array.getElem?_toList];exact h3
theorem urow_made(w:World)(N:Nat):URow (w.alloc (.cells (madeCells #[.int .u32 0] N) 65)) w.heap.size N 0:=
 ⟨_,heap_alloc_new w _,fun j hj=>by
  have h:=(World.rowIs_made w (.int .u32 0) N 65).cell hj;simp only[World.cell?,heap_alloc_new] at h;rw[show(madeCells #[Value.int .u32 0] N)[j]?=some (Value.int .u32 0) from h]
  simp [dg]⟩
def DivRel (w0:World) (g qb b1 o1 n L T A V:Nat) (jv:Value) (wr:World):Prop:=
 ∃t Z D:Nat,t≤T∧jv=.int .i64 ((t:Int) - 1)∧D=A % B16 ^ t+B16 ^ t*((A / B16 ^ t) % V)∧Z=B16 ^ t*((A / B16 ^ t) / V)∧URow wr g L D∧URow wr qb T Z∧Slc wr (some ⟨b1,o1,none⟩) n (dg B16 V)∧Bw w0 wr
theorem div_P{A V t:Nat}:(A % B16 ^ (t+1)+B16 ^ (t+1)*((A / B16 ^ (t+1)) % V)) / B16 ^ t=(A / B16 ^ (t+1)) % V*B16+dg B16 A t∧(A % B16 ^ (t+1)+B16 ^ (t+1)*((A / B16 ^ (t+1)) % V)) % B16 ^ t=A % B16 ^ t:=by
 have hp:0 < B16 ^ t:=Nat.pow_pos B16_pos;generalize(A / B16 ^ (t+1)) % V=R;rw[mod_succ,Nat.pow_succ]
 have e:A % B16 ^ t+B16 ^ t*dg B16 A t+B16 ^ t*B16*R=A % B16 ^ t+B16 ^ t*(R*B16+dg B16 A t):=by grind
 rw[e];constructor
 ·rw[Nat.add_mul_div_left _ _ hp,Nat.div_eq_of_lt (Nat.mod_lt _ hp),Nat.zero_add]
 ·rw[Nat.add_mul_mod_self_left,Nat.mod_mod]
theorem div_P_lt{R V g:Nat}(hR:R < V)(hg:g < B16):R*B16+g < B16*V:=by
 have h:(R+1)*B16≤V*B16:=Nat.mul_le_mul_right _ hR;rw[Nat.add_mul,Nat.one_mul] at h;rw[Nat.mul_comm B16];omega
theorem div_start{A V m n T:Nat}(hA:A < B16 ^ m)(hV:Len B16 V n)(hn:0 < n)(hT:T+n=m+1):A=A % B16 ^ T+B16 ^ T*((A / B16 ^ T) % V)∧0=B16 ^ T*((A / B16 ^ T) / V):=by
 have hlt:A / B16 ^ T < V:=by
  have h1:A / B16 ^ T < B16 ^ (n - 1):=Nat.div_lt_of_lt_mul (by rw[←Nat.pow_add,show T+(n - 1)=m by omega];exact hA);exact Nat.lt_of_lt_of_le h1 (hV.2 hn)
 rw[Nat.mod_eq_of_lt hlt,Nat.div_eq_of_lt hlt,Nat.mod_add_div];exact⟨rfl,rfl⟩
theorem norm_pos{d s:Nat}(hd:0 < d)(h:d*2 ^ s < 65536):s < 16:=by
 rcases Nat.lt_or_ge s 16 with h1 | h1
 ·exact h1
 ·have h2:2 ^ 16≤2 ^ s:=Nat.pow_le_pow_right (by omega) h1;have h3:1*2 ^ s≤d*2 ^ s:=Nat.mul_le_mul_right _ hd;omega
theorem norm_len{y k s:Nat}(hy:Len B16 y k)(hk:0 < k)(h:dg B16 y (k - 1)*2 ^ s < 65536):Len B16 (y*2 ^ s) k:=by
 obtain⟨t,rfl⟩:∃t,k=t+1:=⟨k - 1,by omega⟩;rw[show t+1 - 1=t by omega] at h;have e:dg B16 y t=y / B16 ^ t:=dg_top hy.1;constructor
 ·have h1:y < (dg B16 y t+1)*B16 ^ t:=by rw[e];have:=Nat.lt_div_mul_add (a:=y) (Nat.pow_pos (n:=t) B16_pos);rw[Nat.add_mul,Nat.one_mul];omega
  have h2:y*2 ^ s < (dg B16 y t+1)*B16 ^ t*2 ^ s:=Nat.mul_lt_mul_of_pos_right h1 (Nat.pow_pos (by omega))
  have h3:(dg B16 y t+1)*2 ^ s≤65536:=by
   have hdv:2 ^ s ∣ 65536:=by
    have hs:=norm_pos (Nat.pos_of_ne_zero (hy.top B16_pos (by omega))) h;exact⟨2 ^ (16 - s),by rw[←Nat.pow_add,show s+(16 - s)=16 by omega]⟩
   obtain⟨c,hc⟩:=hdv;rw[hc,Nat.mul_comm (2 ^ s)] at h;have:=Nat.lt_of_mul_lt_mul_right h;rw[hc,Nat.mul_comm (2 ^ s)];exact Nat.mul_le_mul_right _ this
  have h4:(dg B16 y t+1)*B16 ^ t*2 ^ s≤B16 ^ (t+1):=by
   rw[Nat.pow_succ,Nat.mul_right_comm,Nat.mul_comm (B16 ^ t)];exact Nat.mul_le_mul_right _ h3
  omega
 ·intro _;exact Nat.le_trans (hy.2 (by omega)) (Nat.le_mul_of_pos_right _ (Nat.pow_pos (by omega)))
theorem NatDiv_less(va vb:Value)(x y:Nat)(w:World)(ha:Rep B16 w va x)(hb:Rep B16 w vb y)(hx:x < B16 ^ 1000000000)(hy:y < B16 ^ 1000000000)(hxy:x < y):
  Calls Tryz.prog 85 #[va,vb] w fun e w'=>∃v1 v2,e=.returned (.tuple #[v1,v2])∧Rep B16 w' v1 (x / y)∧Rep B16 w' v2 (x % y)∧Bw w w':=by
 obtain⟨i0,hi,hz0,hz1,hz2⟩:=info_parts Tryz.infoU32;have HC:=hid (NatCmp_any va vb x y w ha hb hx hy);obtain⟨p1,k1,c1,rfl,hk1,hl1,hs1⟩:=ha;obtain⟨p2,k2,c2,rfl,hk2,hl2,hs2⟩:=hb;have hb1:=hl1.le B16_pos hx
 have h20:((k2:Int) == 0)=false:=by
  have h:k2≠0:=fun h=>by have:=(hl2.zero_iff B16_pos).2 h;omega
  simpa using h
 have HS:=hid (Ai hs1 hl1);rw[Nat.div_eq_of_lt hxy,Nat.mod_eq_of_lt hxy];have hcm:cmp3 x y=-1:=cmp3_lt hxy;rw[hcm] at HC;clear hcm hxy hx hy hl2 hs2 hk2
 by_cases h0:k1=0
 ·subst h0;clear hs1 hl1;go_enter Tryz.func85,Tryz.ntmps85;go_wp2_with fail;refine HC.out.mono ?_;rintro e w' ⟨rfl,q,rfl⟩;have hB1:=(below_drewN (Br w.heap.size w) q)
  go_wp2_with (first
   | (at_builtin;refine wpList_append_run rfl _ _ _ rfl _ _ _ rfl rfl (Tryz.app0 _ _ p1 c1) ?_))
  go_ret2
  exact⟨_,_,rfl,Rep.nil,⟨_,0,0,rfl,Nat.le_refl _,HS.out.2,Slc.zero⟩,hB1.alloc hB1.size _⟩
 ·obtain⟨b1,o1,rfl,hc1⟩:=hs1 (by omega);clear hc1 hs1 hl1;go_enter Tryz.func85,Tryz.ntmps85;go_wp2_with fail;refine HC.out.mono ?_;rintro e w' ⟨rfl,q,rfl⟩;have hB1:=(below_drewN (Br w.heap.size w) q);have hs1':=HS.out.1.below hB1;generalize w.drewN q=W at *;have hal:=hB1.alloc hB1.size (.cells #[] 65);have hnews:=hid (slc_news (hs1'.below ((Br W.heap.size W).alloc (Nat.le_refl _) (.cells #[] 65))));have hown:=hid (own_empty W w.heap.size hB1.size);have hsz:=hB1.size
  go_wp2_with (first
   | (at_builtin;refine wpList_append_own _ rfl _ _ 38 rfl w.heap.size 65 i0 (.int .u32 0) 1 4 Tryz.underlying38 hi hz0 hz1 hz2 rfl (by decide) _ _ _ rfl hown.out ⟨b1,o1,none⟩ k1 c1 ((List.range k1).map (fun j=>Value.int .u32 (dg B16 x j:Nat))) rfl (by simp) hnews.out (fun x hx=>by simp at hx;obtain⟨_,_,rfl⟩:=hx;rfl) (by unfold maxLen;omega) (by omega) (by rw[World.size_alloc];omega) ?_;intro v' w3 hown' hgrow3 hnil3))
  have hB3:Bw w w3:=hal.grown (show(W.alloc (.cells #[] 65)).grownBy w3 (Value.ownBlock (.slice (some ⟨W.heap.size,0,none⟩) 0 0)) from hgrow3) (by rw[World.size_alloc];omega) (fun q hq=>by simp only[Value.ownBlock,Option.some.injEq] at hq;omega)
  have hO3:Own w3 w.heap.size v' k1 (dg B16 x):=by simpa[Own] using hown'
  clear hown' hgrow3 hnil3 hnews hown hal;obtain⟨p3,c3,rfl,hkc,hsl3⟩:=hO3.slc;have HF:=hid (Ai hsl3 hB3);clear hO3 hsl3 hB3 hs1';go_wp2_with fail
  go_ret2
  exact⟨_,_,rfl,Rep.nil,⟨p3,k1,c3,rfl,hkc,HS.out.2,HF.out.1⟩,HF.out.2⟩
theorem NatDiv_small(va vb:Value)(x y:Nat)(w:World)(ha:Rep B16 w va x)(hb:Rep B16 w vb y)(hx:x < B16 ^ 1000000000)(hy:y < 65536)(hy0:0 < y)(hxy:y≤x):
  Calls Tryz.prog 85 #[va,vb] w fun e w'=>∃v1 v2,e=.returned (.tuple #[v1,v2])∧Rep B16 w' v1 (x / y)∧Rep B16 w' v2 (x % y)∧Bw w w':=by
 have HC:=hid (NatCmp_any va vb x y w ha hb hx (lt_16 (show y < B16 ^ 1 by rw[Nat.pow_one];exact hy) (by omega)));have HSm:=hid (fun (W:World) (hB:Bw w W)=>small_any va x y W (ha.below hB) hx hy0 hy);have hr:x % y < 65536:=Nat.lt_trans (Nat.mod_lt _ hy0) hy;have HN:=hid (fun W=>NatOf_any (x % y) W (by omega));obtain⟨p1,k1,c1,rfl,hk1,hl1,hs1⟩:=ha;obtain⟨p2,k2,c2,rfl,hk2,hl2,hs2⟩:=hb
 have hk:k2=1:=by
  have h1:=hl2.le B16_pos (show y < B16 ^ 1 by rw[Nat.pow_one];exact hy)
  have h2:k2≠0:=fun h=>by have:=(hl2.zero_iff B16_pos).2 h;omega
  omega
 subst hk;obtain⟨b2,o2,rfl,hc2⟩:=hs2 (by omega);have hc20:=hc2 0 (by omega);rw[show dg B16 y 0=y by unfold dg;rw[Nat.pow_zero,Nat.div_one];exact Nat.mod_eq_of_lt hy,Nat.add_zero] at hc20;have hcm:(cmp3 x y < 0)=False:=eq_false (by unfold cmp3;rw[if_neg (by omega)];split<;>decide);have HC20:=hid hc20;obtain⟨r,hrr⟩:∃r,r=cmp3 x y:=⟨_,rfl⟩;rw[←hrr] at HC hcm
 have hcd:decide (r < 0)=false:=by simp [hcm]
 clear hrr hcm hc2 hc20 hl1 hs1 hl2 hs2 hk1 hx hxy hy hy0;go_enter Tryz.func85,Tryz.ntmps85;go_wp2_with fail;refine HC.out.mono ?_;rintro e w' ⟨rfl,q,rfl⟩;have hB1:=(below_drewN (Br w.heap.size w) q);have hc20:=(below_drewN (Br w.heap.size w) q).cell (p:=⟨b2,o2,none⟩) (World.block_lt_of_cell? _ _ HC20.out);rw[HC20.out] at hc20;generalize w.drewN q=W at *;go_wp2_with fail;refine(HSm.out W hB1).mono ?_;rintro e w2 ⟨v1,rfl,hR1,hB2⟩;have HB2:=hid (hB1.trans (hB2.mono hB1.size));clear hc20 hB1 hB2;go_wp2_with fail;refine(HN.out w2).mono ?_;rintro e w3 ⟨v2,rfl,hR2,hB3⟩;have HF:=hid (Ai (hR1.below hB3) (Ai hR2 (HB2.out.trans (hB3.mono HB2.out.size))));clear hR1 hR2 hB3 HB2;go_wp2_with fail
 go_ret2
 exact⟨_,_,rfl,HF.out.1,HF.out.2.1,HF.out.2.2⟩
end Go.Proofs.YteblinkehldghaaGreatDoor
