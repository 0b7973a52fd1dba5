/- The natural numbers of the program: copies of digits, the tail. -/
import Derived.Test.YteblinkehldghaaGreatDoorNatK
import Derived.Laws.CopyOwn
set_option maxHeartbeats 2000000
set_option maxRecDepth 100000
namespace Go.Proofs.YteblinkehldghaaGreatDoor
open Go.RowKit Dg
open And renaming intro→Ai
open Nat renaming le_refl→Lr
open Below renaming refl→Br
theorem Slc.alloc{w:World}{p:Option Addr}{n:Nat}{f:Nat→Nat}(h:Slc w p n f)(o:Obj):Slc (w.alloc o) p n f:=h.below ((Br _ _).alloc (Lr _) o)
theorem Tryz.sizeU32:(Tryz.prog.info? 65).map (·.size)=some 1:=by kernel_rfl
theorem wpList_copy_digits{B N n cap x dT sT:Nat}{p}{w0 w:World}{ops:Array Oper}{rest:List Oper}{o:Oper}{a:Act}{Q:Exit→Act→World→Prop}(hgd:o.guard=none)(d s:Operand)
  (ho:o.op=.call {callee:=.builtin .copy,args:=#[d,s],argTypes:=#[dT,sT]})(hu:Tryz.prog.underlying dT=some (.slice 65))
  (hd:a.eval d=.slice (some ⟨w0.heap.size,0,none⟩) N N)(hs:a.eval s=.slice p n cap)(hB:0 < B)(hM:Mk B w0 w N 0)(hsl:Slc w p n (dg B x))(hn0:0 < n)
  (h:∀w',Mk B w0 w' N (x % B ^ min n N)→wpList Tryz.prog ops Q rest (a.put o.dst (goInt ((min n N:Nat):Int))) w'):
  wpList Tryz.prog ops Q (o::rest) a w:=by
 obtain⟨b,off,rfl,hc⟩:=hsl hn0;obtain⟨c,hg,hcN,hcc⟩:=hM.row
 have hlen:((List.range (min n N)).map fun j=>Value.int .u32 (dg B x j:Nat)).length=min n N:=by simp
 refine wpList_copy_own hgd d s dT sT ho 65 hu Tryz.sizeU32 w0.heap.size 0 N N ⟨b,off,none⟩ n cap hd hs c 65 hg ((List.range (min n N)).map fun j=>Value.int .u32 (dg B x j:Nat)) (by rw[hlen]) ?_ (by rw[hlen];omega) ?_ ?_
 ·intro j v hj;obtain⟨hlt,hv⟩:=List.getElem?_eq_some_iff.1 hj;rw[hlen] at hlt;simp only[List.getElem_map,List.getElem_range] at hv;subst hv;rw[Addr.add_lit];exact hc j (by omega)
 ·intro v hv;obtain⟨j,_,rfl⟩:=List.mem_map.1 hv;rfl
 ·rw[hlen];refine h _ ⟨below_setRow hM.bel (Lr _) _,_,setRow_heap w _ _ _ _ _ hg,?_,?_⟩
  ·simp;omega
  ·intro i hi;simp only[List.take_zero,List.nil_append,Nat.zero_add,List.getElem?_toArray]
   by_cases h1:i < min n N
   ·rw[List.getElem?_append_left (by simpa using h1)]
    have e:dg B (x % B ^ min n N) i=dg B x i:=by
     have e:=Nat.mod_add_div x (B ^ min n N)
     conv=>rhs;rw[←e]
     rw[dg_add_lt hB h1]
    rw[e];simp [h1]
   ·rw[List.getElem?_append_right (by simp;omega)];have e:dg B (x % B ^ min n N) i=0:=dg_zero' hB (Nat.mod_lt _ (Nat.pow_pos hB)) (by omega);rw[e];have:=hcc i hi;simp [List.getElem?_drop,dg] at this ⊢;rw[show min n N+(i - min n N)=i by omega];exact this
theorem and_mask(d t:Nat)(hd:d < 4294967296)(ht:t < 32):bits .and .u32 (d:Int) ((2 ^ t - 1) % 4294967296)=((d % 2 ^ t:Nat):Int):=by
 have h1:0 < 2 ^ t:=Nat.pow_pos (by omega);have h2:2 ^ t < 2 ^ 32:=Nat.pow_lt_pow_right (by omega) ht
 have e:((2:Int) ^ t - 1) % 4294967296=((2 ^ t - 1:Nat):Int):=by
  have:(2:Int) ^ t=((2 ^ t:Nat):Int):=by rw[Int.natCast_pow];rfl
  rw[this];omega
 rw[e,u32_and_nat _ _ hd (by omega),Nat.and_two_pow_sub_one_eq_mod]
theorem tail_val{x s t:Nat}(ht:t < 32):setd W32 (x % W32 ^ (s+1)) s (dg W32 (x % W32 ^ (s+1)) s % 2 ^ t)=x % 2 ^ (32*s+t)∧x % 2 ^ (32*s+t) < W32 ^ (s+1):=by
 have hW:=W32_mul t ht;have hP:0 < W32 ^ s:=Nat.pow_pos W32_pos
 have e1:dg W32 (x % W32 ^ (s+1)) s=dg W32 x s:=by
  have e:=Nat.mod_add_div x (W32 ^ (s+1))
  conv=>rhs;rw[←e]
  rw[dg_add_lt W32_pos (Nat.lt_succ_self s)]
 have e2:x % W32 ^ (s+1) % W32 ^ s=x % W32 ^ s:=Nat.mod_mod_of_dvd _ ⟨W32,by rw[Nat.pow_succ]⟩;have e3:x % W32 ^ (s+1) / W32 ^ (s+1)=0:=Nat.div_eq_of_lt (Nat.mod_lt _ (Nat.pow_pos W32_pos));refine⟨?_,?_⟩
 ·unfold setd;rw[e1,e2,e3,Nat.mul_zero,Nat.add_zero,pow_split,Nat.mod_mul];unfold dg;rw[Nat.mod_mod_of_dvd _ ⟨2 ^ (32 - t),hW⟩]
 ·rw[pow_split];refine Nat.lt_of_lt_of_le (Nat.mod_lt _ (Nat.mul_pos hP (Nat.pow_pos (by omega)))) ?_;rw[Nat.pow_succ];refine Nat.mul_le_mul_left _ ?_;rw[W32_val];exact Nat.pow_le_pow_right (n:=2) (by omega) (Nat.le_of_lt ht)
theorem tail_any(va:Value)(x n:Nat)(w:World)(ha:Rep W32 w va x)(hx:x < W32 ^ 1000000000)(hn:2 ^ n≤x):
  Calls Tryz.prog 168 #[va,.int .i64 n] w fun e w'=>∃v,e=.returned v∧Rep W32 w' v (x % 2 ^ n)∧Bw w w':=by
 obtain⟨pa,na,ca,rfl,hca,hla,hsa⟩:=ha;have hna:=hla.le W32_pos hx;clear hx
 have hn2:n < 32*na:=by
  have h1:=hla.1;rw[W32_pow] at h1;exact(Nat.pow_lt_pow_iff_right (by omega)).1 (Nat.lt_of_le_of_lt hn h1)
 obtain⟨s,t,hst,ht⟩:∃s t,n=32*s+t∧t < 32:=⟨n / 32,n % 32,by omega,by omega⟩
 have hsn:s < na:=by omega
 have hq:(n:Int) / 32=(s:Int):=by omega
 have hnt:n % 32=t:=by omega
 have Hnt:=hid hnt;have Hst:=hid hst;have hmk:=Tryz.mk (s+1) (by omega);simp only[Int.natCast_add,Int.cast_ofNat_Int] at hmk
 have hn3:n≤32000000000:=by omega
 clear hst hn hnt hn2;go_enter Tryz.func168,Tryz.ntmps168;have HM0:=hid (Mk.start W32 w (s+1));have Hsa:=hid (hsa.alloc (.cells (madeCells #[.int .u32 0] (s+1)) 65))
 have hna0:0 < na:=by omega
 clear hsa;go_wp2_with (with_reducible refine wpList_copy_digits (dT:=22) (sT:=46) (B:=W32) (w0:=w) (N:=s+1) (n:=na) (cap:=ca) (p:=pa) (x:=x) rfl (.tmp 15) (.tmp 16) rfl Tryz.underlying22 rfl rfl W32_pos HM0.out Hsa.out hna0 ?_);intro w1 hM;clear hmk hq;go_wp2_with fail;have hcell:=hM.cell (Nat.lt_succ_self s);have hfrz:=hM.row.frozen s;have Hv:=hid (tail_val (x:=x) (s:=s) ht)
 have hmin:min na (s+1)=s+1:=by omega
 rw[hmin] at hM hcell;clear hmin
 go_region
 go_wp2_with fail;have hd:=dg_u32 (x % W32 ^ (s+1)) s;have hlt:dg W32 (x % W32 ^ (s+1)) s % 2 ^ t < W32:=Nat.lt_of_le_of_lt (Nat.mod_le _ _) hd;have hM2:=hM.set W32_pos s _ hlt;rw[Hv.out.1,←Hst.out] at hM2;rw[Hnt.out,and_mask _ t hd ht];have hM3:=hM2.drewN 1;rw[←World.drew_is_drewN] at hM3;refine(Of_any _ _ _ (x % 2 ^ n) _ (by omega) (Lr _) (by rw[Hst.out];exact Hv.out.2) hM3.slc).mono ?_;rintro e w' ⟨m,rfl,hm,hlen,rfl⟩;go_wp2_with fail
 go_ret
 exact⟨_,rfl,⟨_,_,_,rfl,hm,hlen,hM3.slc.take (by omega)⟩,hM3.bel⟩
theorem two_top{V k:Nat}(hV:V < W32 ^ (k+2)):V=(dg W32 V (k+1)*W32+dg W32 V k)*W32 ^ k+V % W32 ^ k:=by
 have h1:=Nat.mod_add_div V (W32 ^ k);rw[div_succ W32 V k,←dg_top hV,Nat.mul_comm] at h1
 have:(dg W32 V (k+1)*W32+dg W32 V k)*W32 ^ k=(dg W32 V k+W32*dg W32 V (k+1))*W32 ^ k:=by congr 1;rw[Nat.mul_comm,Nat.add_comm]
 omega
theorem three_top{P k:Nat}(hP:P < W32 ^ (k+3)):P=((dg W32 P (k+2)*W32+dg W32 P (k+1))*W32+dg W32 P k)*W32 ^ k+P % W32 ^ k:=by
 have h1:=Nat.mod_add_div P (W32 ^ k);rw[div_succ W32 P k,div_succ W32 P (k+1),←dg_top hP] at h1;generalize dg W32 P (k+2)=a at *;generalize dg W32 P (k+1)=b at *;generalize dg W32 P k=c at *
 have:((a*W32+b)*W32+c)*W32 ^ k=W32 ^ k*(c+W32*(b+W32*a)):=by grind
 omega
theorem top_le{P V k:Nat}(hP:P < W32 ^ (k+3))(hV:V < W32 ^ (k+2))(hPV:P < W32*V):dg W32 P (k+2)≤dg W32 V (k+1):=by
 rw[dg_top hP,dg_top hV];refine Nat.le_of_lt_succ (Nat.div_lt_of_lt_mul ?_);have h1:=Nat.lt_mul_div_succ V (Nat.pow_pos W32_pos:0 < W32 ^ (k+1));have h2:W32*V≤W32*(W32 ^ (k+1)*(V / W32 ^ (k+1)+1)):=Nat.mul_le_mul_left _ (Nat.le_of_lt h1)
 have e:W32*(W32 ^ (k+1)*(V / W32 ^ (k+1)+1))=W32 ^ (k+2)*(V / W32 ^ (k+1)+1):=by rw[Nat.pow_succ W32 (k+1)];grind
 rw[e] at h2;exact Nat.lt_of_lt_of_le hPV h2
def Est (P V k q r:Nat):Prop:=q*dg W32 V (k+1)+r=dg W32 P (k+2)*W32+dg W32 P (k+1)∧P / V≤q
theorem Est.start{P V k:Nat}(hP:P < W32 ^ (k+3))(hV:V < W32 ^ (k+2))(hf:0 < dg W32 V (k+1)):
  Est P V k ((dg W32 P (k+2)*W32+dg W32 P (k+1)) / dg W32 V (k+1)) ((dg W32 P (k+2)*W32+dg W32 P (k+1)) % dg W32 V (k+1)):=by
 refine⟨by rw[Nat.mul_comm];exact Nat.div_add_mod _ _,?_⟩;have eP:=three_top hP;have eV:=two_top hV;generalize dg W32 P (k+2)*W32+dg W32 P (k+1)=top at *;generalize dg W32 V (k+1)=f at *;have hR:0 < W32 ^ k:=Nat.pow_pos W32_pos;have hc:dg W32 P k < W32:=dg_lt W32_pos;have hm:P % W32 ^ k < W32 ^ k:=Nat.mod_lt _ hR
 -- P < (top+1)*W32*R,f*W32*R <= V
 have h1:P < (top+1)*(W32*W32 ^ k):=by
  have h2:(top*W32+dg W32 P k+1)*W32 ^ k≤((top+1)*W32)*W32 ^ k:=Nat.mul_le_mul_right _ (by rw[Nat.add_mul];omega);rw[Nat.add_mul _ 1] at h2;rw[Nat.mul_assoc (top+1)] at h2;omega
 have h3:f*(W32*W32 ^ k)≤V:=by
  have:f*W32*W32 ^ k≤(f*W32+dg W32 V k)*W32 ^ k:=Nat.mul_le_mul_right _ (by omega);rw[Nat.mul_assoc] at this;exact Nat.le_trans this (Nat.le.intro eV.symm)
 have hpos:0 < W32*W32 ^ k:=Nat.mul_pos W32_pos hR;have h4:P / V≤P / (f*(W32*W32 ^ k)):=Nat.div_le_div_left h3 (Nat.mul_pos hf hpos)
 have h5:P / (f*(W32*W32 ^ k))≤top / f:=by
  rw[Nat.mul_comm f,←Nat.div_div_eq_div_mul];refine Nat.div_le_div_right (Nat.le_of_lt_succ (Nat.div_lt_of_lt_mul ?_));rw[Nat.mul_comm];exact h1
 omega
theorem Est.next{P V k q r:Nat}(h:Est P V k q r)(hP:P < W32 ^ (k+3))(hV:V < W32 ^ (k+2))(hPV:P < W32*V)
  (hc:W32≤q∨r*W32+dg W32 P k < q*dg W32 V k):1≤q∧Est P V k (q - 1) (r+dg W32 V (k+1)):=by
 have hV0:0 < V:=by
                        rcases Nat.eq_zero_or_pos V with h0 | h0
                        ·subst h0;simp at hPV
                        ·exact h0
 have hlt:P / V < W32:=Nat.div_lt_of_lt_mul (by rw[Nat.mul_comm];exact hPV)
 have hq:P / V < q:=by
  rcases Nat.lt_or_ge q W32 with h1 | h1
  ·exact est_ge (three_top hP) (Nat.pow_pos W32_pos) (Nat.le.intro (two_top hV).symm) h.1 (fun h2=>by omega) (fun _=>by rcases hc with h3 | h3<;>omega)
  ·omega
 have hq1:0 < q:=Nat.lt_of_le_of_lt (Nat.zero_le _) hq;obtain⟨t,rfl⟩:∃t,q=t+1:=⟨q - 1,by omega⟩;refine⟨by omega,?_,by simp only[Nat.add_sub_cancel];omega⟩;have:=h.1;rw[Nat.succ_mul] at this;simp only[Nat.add_sub_cancel];omega
theorem Est.stop{P V k q r:Nat}(h:Est P V k q r)(hP:P < W32 ^ (k+3))(hV:V < W32 ^ (k+2))(hPV:P < W32*V)(hf:2147483648≤dg W32 V (k+1))
  (hc:W32≤r∨(q < W32∧q*dg W32 V k≤r*W32+dg W32 P k)):q < W32∧P / V≤q∧q≤P / V+1:=by
 have hV0:0 < V:=by
                        rcases Nat.eq_zero_or_pos V with h0 | h0
                        ·subst h0;simp at hPV
                        ·exact h0
 have htop:=top_le hP hV hPV;have hd1:dg W32 P (k+1) < W32:=dg_lt W32_pos;have hs:dg W32 V k < W32:=dg_lt W32_pos
 have hqB:q < W32:=by
  rcases hc with h1 | h1
  ·rcases Nat.lt_or_ge q W32 with h2 | h2
   ·exact h2
   ·exfalso
    have h3:W32*dg W32 V (k+1)≤q*dg W32 V (k+1):=Nat.mul_le_mul_right _ h2;have h4:dg W32 P (k+2)*W32≤dg W32 V (k+1)*W32:=Nat.mul_le_mul_right _ htop;rw[Nat.mul_comm W32] at h3;have:=h.1;omega
  ·exact h1.1
 refine⟨hqB,h.2,?_⟩;refine est_le (three_top hP) ?_ hV0 h.1 hqB ?_ hs ?_
 ·have:=two_top hV;have hm:V % W32 ^ k < W32 ^ k:=Nat.mod_lt _ (Nat.pow_pos W32_pos);rw[Nat.add_mul _ 1];omega
 ·have:2147483648*W32≤dg W32 V (k+1)*W32:=Nat.mul_le_mul_right _ hf;omega
 ·rcases hc with h1 | h1
  ·exact .inl h1
  ·exact .inr h1.2
def EstRel (E:Nat→Nat→Prop) (a b:Value):Prop:=∃q r:Nat,a=.int .u64 q∧b=.int .u64 r∧q < 18446744073709551616∧r < 8589934592∧E q r
theorem u64_dec(q:Nat)(hq:q < 18446744073709551616):1≤q→IntKind.u64.wrap ((q:Int) - 1)=(q:Int) - 1:=fun h=>by
 rw[u64_mod];omega
theorem estimate_walk(b0 o0 cap b1 o1 cb k f s2 p2 p1 p0 P V:Nat)(w:World)(hk:k≤1000000000)
  (c2:w.cell? ⟨b0,o0+(k+2),none⟩=some (.int .u32 (p2:Nat)))(c1:w.cell? ⟨b0,o0+(k+1),none⟩=some (.int .u32 (p1:Nat)))(c0:w.cell? ⟨b0,o0+k,none⟩=some (.int .u32 (p0:Nat)))
  (d1:w.cell? ⟨b1,o1+(k+1),none⟩=some (.int .u32 (f:Nat)))(d0:w.cell? ⟨b1,o1+k,none⟩=some (.int .u32 (s2:Nat)))
  (l2:p2 < 4294967296)(l1:p1 < 4294967296)(l0:p0 < 4294967296)(lf:f < 4294967296)(ls:s2 < 4294967296)(hf0:1≤f)
  (E:Nat→Nat→Prop)(hstart:Hid (E ((p2*4294967296+p1) / f) ((p2*4294967296+p1) % f)))
  (hnext:Hid (∀q r,E q r→(4294967296≤q∨r*4294967296+p0 < q*s2)→1≤q∧E (q - 1) (r+f)))
  (hstop:Hid (∀q r,E q r→(4294967296≤r∨(q < 4294967296∧q*s2≤r*4294967296+p0))→q < 4294967296∧P / V≤q∧q≤P / V+1)):
  Calls Tryz.prog 179 #[.slice (some ⟨b0,o0,none⟩) (k+3) cap,.slice (some ⟨b1,o1,none⟩) (k+2) cb] w
   fun e w'=>∃q:Nat,e=.returned (.int .u32 q)∧q < 4294967296∧P / V≤q∧q≤P / V+1∧∃n,w'=w.drewN n:=by
 have hor1:=or_join64 p2 p1 l2 l1;have hdiv:=cast_quo p2 p1 f;have hmod:=cast_rem p2 p1 f;rw[cast_join] at hor1
 have hft:(f:Int)≠0:=by omega
 have hq64:(p2*4294967296+p1) / f < 18446744073709551616:=Nat.lt_of_le_of_lt (Nat.div_le_self _ _) (by omega);have hr32:(p2*4294967296+p1) % f < f:=Nat.mod_lt _ hf0;have Hd:=hid hdiv;have Hm:=hid hmod;clear hdiv hmod;go_enter Tryz.func179,Tryz.ntmps179;go_wp2_with fail
 go_quiet (fail)
 go_wp2_with fail
 go_quiet (fail)
 go_wp2_with fail
 go_quiet (fail)
 go_wp2_with fail;clear c2 c1 d1 d0 hor1
 go_loop [9,10] (EstRel E) (fun a _=>(intOf a).toNat)
 case atStart=>exact⟨_,_,congrArg (Value.int .u64) Hd.out.symm,congrArg (Value.int .u64) Hm.out.symm,hq64,by omega,hstart.out⟩
 case round=>
  obtain⟨q,r,rfl,rfl,hq,hr,hE⟩:=hrel;have HE:=hid hE;have hwq:=u64_dec q hq;have Hq:=hid hq;have Hr:=hid hr;have Hwq:=hid hwq;clear hE hwq hq64 hr32 hq hr l2 l1 hft hstart Hd Hm
  by_cases hr1:r < 4294967296
  ·by_cases hq1:q < 4294967296
   ·have hprod:(q:Int)*(s2:Int)≤18446744065119617025:=by
     have:q*s2≤4294967295*4294967295:=Nat.mul_le_mul (by omega) (by omega);rw[←Int.natCast_mul];omega
    have hprod0:0≤(q:Int)*(s2:Int):=Int.mul_nonneg (by omega) (by omega);have hor:=or_join64 r p0 hr1 l0;rw[cast_join] at hor
    by_cases ht:r*4294967296+p0 < q*s2
    ·have ht':(r:Int)*4294967296+(p0:Int) < (q:Int)*(s2:Int):=by rw[←Int.natCast_mul];omega
     have Hn:=hid (hnext.out q r HE.out (.inr ht))
     have hq0:(1:Int)≤(q:Int):=by have:=Hn.out.1;omega
     have a1:(r:Int) < 4294967296:=by omega
     have b1:decide ((r:Int) < 4294967296)=true:=decide_eq_true (by omega)
     have b2:decide ((4294967296:Int)≤(q:Int))=false:=by simp;omega
     have b3:decide ((r:Int)*4294967296+(p0:Int) < (q:Int)*(s2:Int))=true:=by simpa using ht'
     clear ht hr1;go_wp2_with fail
     go_round
     case rel=>
      have h1:=Hn.out.1;have h2:=Hq.out;exact⟨q - 1,r+f,congrArg (Value.int .u64) (by omega),congrArg (Value.int .u64) (by omega),by omega,by omega,Hn.out.2⟩
     case measure=>have h1:=Hn.out.1;simp [intOf];omega
    ·have ht':(q:Int)*(s2:Int)≤(r:Int)*4294967296+(p0:Int):=by rw[←Int.natCast_mul];omega
     have Hs:=hid (hstop.out q r HE.out (.inr ⟨hq1,by omega⟩))
     have a1:(r:Int) < 4294967296:=by omega
     have Hq1:=hid hq1;have b1:decide ((r:Int) < 4294967296)=true:=decide_eq_true (by omega)
     have b2:decide ((4294967296:Int)≤(q:Int))=false:=by simp;omega
     have b3:decide ((r:Int)*4294967296+(p0:Int) < (q:Int)*(s2:Int))=false:=by simpa using ht'
     clear ht hr1;go_wp2_with fail
     go_ret
     exact⟨q,rfl,Hq1.out,Hs.out.2.1,Hs.out.2.2,_,rfl⟩
   ·have Hn:=hid (hnext.out q r HE.out (.inl (by omega)))
    have a1:(r:Int) < 4294967296:=by omega
    have a2:(4294967296:Int)≤(q:Int):=by omega
    have hw:=Hwq.out (by omega);clear hr1 hq1;go_wp2_with fail
    go_round
    case rel=>
      have h1:=Hn.out.1;have h2:=Hq.out;exact⟨q - 1,r+f,congrArg (Value.int .u64) (by omega),congrArg (Value.int .u64) (by omega),by omega,by omega,Hn.out.2⟩
    case measure=>have h1:=Hn.out.1;simp [intOf];omega
  ·have Hs:=hid (hstop.out q r HE.out (.inl (by omega)))
   have a1:(4294967296:Int)≤(r:Int):=by omega
   have hq1:=Hs.out.1
   have b1:decide ((r:Int) < 4294967296)=false:=by simpa using a1
   clear hr1 a1;go_wp2_with fail
   go_ret
   exact⟨q,rfl,Hs.out.1,Hs.out.2.1,Hs.out.2.2,_,rfl⟩
theorem estimate_any(b0 o0 cap b1 o1 cb k P V:Nat)(w:World)(hk:k≤1000000000)
  (hs0:∀j,j < k+3→w.cell? ⟨b0,o0+j,none⟩=some (.int .u32 (dg W32 P j:Nat)))(hs1:∀j,j < k+2→w.cell? ⟨b1,o1+j,none⟩=some (.int .u32 (dg W32 V j:Nat)))
  (hP:P < W32 ^ (k+3))(hV:V < W32 ^ (k+2))(hPV:P < W32*V)(hf:2147483648≤dg W32 V (k+1)):
  Calls Tryz.prog 179 #[.slice (some ⟨b0,o0,none⟩) (k+3) cap,.slice (some ⟨b1,o1,none⟩) (k+2) cb] w
   fun e w'=>∃q:Nat,e=.returned (.int .u32 q)∧q < 4294967296∧P / V≤q∧q≤P / V+1∧∃n,w'=w.drewN n:=
 estimate_walk b0 o0 cap b1 o1 cb k (dg W32 V (k+1)) (dg W32 V k) (dg W32 P (k+2)) (dg W32 P (k+1)) (dg W32 P k) P V w hk
  (hs0 (k+2) (by omega)) (hs0 (k+1) (by omega)) (hs0 k (by omega)) (hs1 (k+1) (by omega)) (hs1 k (by omega)) (dg_u32 _ _) (dg_u32 _ _) (dg_u32 _ _) (dg_u32 _ _) (dg_u32 _ _) (by omega)
  (Est P V k) (hid (Est.start hP hV (by omega))) (hid fun _ _ h hc=>h.next hP hV hPV hc) (hid fun _ _ h hc=>h.stop hP hV hPV hf hc)
structure Only (b:Nat) (w w':World):Prop where
 os:w'.os=w.os
 tape:w'.tape=w.tape
 output:w'.output=w.output
 size:w'.heap.size=w.heap.size
 block:∀k,k≠b→w'.heap[k]?=w.heap[k]?
theorem Only.refl(b:Nat)(w:World):Only b w w:=⟨rfl,rfl,rfl,rfl,fun _ _=>rfl⟩
theorem Only.trans{b:Nat}{a c d:World}(h:Only b a c)(k:Only b c d):Only b a d:=
 ⟨k.os.trans h.os,k.tape.trans h.tape,k.output.trans h.output,k.size.trans h.size,fun i hi=>(k.block i hi).trans (h.block i hi)⟩
theorem Only.drewN{b:Nat}{a w:World}(h:Only b a w)(n:Nat):Only b a (w.drewN n):=⟨h.os,h.tape,h.output,h.size,h.block⟩
theorem Only.setCell{b:Nat}{a w:World}(h:Only b a w)(o:Nat)(v:Value):Only b a (w.setCell ⟨b,o,none⟩ v):=
 h.trans ⟨rfl,rfl,rfl,by simp [World.setCell],fun k hk=>Below.heap_setCell _ _ _ _ (by exact hk)⟩
theorem Only.cell{b:Nat}{w w':World}(h:Only b w w'){p:Addr}(hp:p.block≠b):w'.cell? p=w.cell? p:=World.cell?_of_block (w:=w) (h.block p.block hp)
theorem Only.row{b c t n:Nat}{w w':World}{f:Nat→Value}(h:Only b w w')(hc:c≠b)(hr:w.rowIs c t n f):w'.rowIs c t n f:=hr.of_block (h.block c hc)
theorem Only.below{b B:Nat}{w0 w w':World}(h:Only b w w')(hB:B≤b)(hb:Below B w0 w):Below B w0 w':=
 hb.trans ⟨h.os,h.tape,h.output,by rw[h.size];exact Lr _,fun k hk=>h.block k (by omega)⟩
abbrev DRow (w:World) (b L D:Nat):Prop:=w.rowIs b 65 L (fun j=>.int .u32 (dg W32 D j:Nat))
theorem DRow.set{w:World}{b L D:Nat}(h:DRow w b L D)(k s:Nat)(hs:s < W32):DRow (w.setCell ⟨b,k,none⟩ (.int .u32 (s:Nat))) b L (setd W32 D k s):=
 (World.rowIs.set h k _).congr (fun j _=>by
  show(if j=k then _ else _)=Value.int .u32 (dg W32 (setd W32 D k s) j:Nat)
  rw[dg_setd W32_pos hs];split<;>rfl)
def mixd (D i j X P:Nat):Nat:=D % W32 ^ i+W32 ^ i*(X+W32 ^ j*(P / W32 ^ j))
theorem dg_mix{D i j X P:Nat}(hX:X < W32 ^ j):dg W32 (mixd D i j X P) (i+j)=dg W32 P j:=by
 unfold mixd;have h1:D % W32 ^ i < W32 ^ i:=Nat.mod_lt _ (Nat.pow_pos W32_pos);unfold dg;rw[Nat.pow_add,←Nat.div_div_eq_div_mul,Nat.add_mul_div_left _ _ (Nat.pow_pos W32_pos),Nat.div_eq_of_lt h1,Nat.zero_add,Nat.add_mul_div_left _ _ (Nat.pow_pos W32_pos),Nat.div_eq_of_lt hX,Nat.zero_add]
theorem mix_set{D i j X P s:Nat}(hX:X < W32 ^ j):setd W32 (mixd D i j X P) (i+j) s=mixd D i (j+1) (X+W32 ^ j*s) P:=by
 have h:=setd_val W32 (mixd D i j X P) (i+j) s;rw[dg_mix hX] at h;generalize setd W32 (mixd D i j X P) (i+j) s=S at *
 have e:mixd D i j X P=D % W32 ^ i+W32 ^ i*(X+W32 ^ j*(dg W32 P j+W32*(P / W32 ^ (j+1)))):=by unfold mixd;rw[←div_succ]
 rw[e] at h;unfold mixd at *
 have e1:W32 ^ (i+j)*dg W32 P j=W32 ^ i*(W32 ^ j*dg W32 P j):=by rw[Nat.pow_add,Nat.mul_assoc]
 have e2:W32 ^ (i+j)*s=W32 ^ i*(W32 ^ j*s):=by rw[Nat.pow_add,Nat.mul_assoc]
 have e3:W32 ^ (j+1)*(P / W32 ^ (j+1))=W32 ^ j*(W32*(P / W32 ^ (j+1))):=by rw[Nat.pow_succ,Nat.mul_assoc]
 rw[e1,e2] at h;rw[e3];simp only[Nat.mul_add] at h ⊢;omega
theorem mix_start(D i:Nat):mixd D i 0 0 (D / W32 ^ i)=D:=by
 unfold mixd;simp only[Nat.pow_zero,Nat.div_one,Nat.zero_add,Nat.one_mul];exact Nat.mod_add_div D (W32 ^ i)
theorem and_low(c:Nat)(hc:c < 18446744073709551616):bits .and .u64 (c:Int) 4294967295=((c % 4294967296:Nat):Int):=by
 rw[show(4294967295:Int)=((4294967295:Nat):Int) from rfl,u64_and_nat _ _ hc (by omega),show(4294967295:Nat)=2 ^ 32 - 1 from rfl,Nat.and_two_pow_sub_one_eq_mod]
theorem u64_take(a m b:Nat)(ha:a < 4294967296)(hm:m < 4294967296)(hb:b≤1)(h:a < m+b):
  IntKind.u64.wrap (IntKind.u64.wrap ((a:Int) - (m:Int)) - (b:Int))=((18446744073709551616+a - m - b:Nat):Int):=u64_borrow a m b ha hm hb h
def Take (w0:World) (b0 L D i q V m:Nat) (j:Nat) (c bo X:Nat) (w:World):Prop:=
 (m < j→c=0)∧X < W32 ^ j∧X+q*(V % W32 ^ j)=(D / W32 ^ i) % W32 ^ j+W32 ^ j*(c+bo)∧c < 4294967296∧bo≤1∧Only b0 w0 w∧DRow w b0 L (mixd D i j X (D / W32 ^ i))
def TakeRel (w0:World) (b0 L D i n q V m:Nat) (c bo ct:Value) (w:World):Prop:=
 ∃j cc bb X:Nat,j≤n∧ct=.int .i64 j∧c=.int .u64 cc∧bo=.int .u64 bb∧Take w0 b0 L D i q V m j cc bb X w
theorem takeAway_any(b0 i n cap b1 o1 m cb q L D V:Nat)(w:World)(hn:n≤1000000000)(hi:i+n≤L)(hL:L≤4000000000)(hm:m≤1000000000)(hne:b1≠b0)
  (hrow:DRow w b0 L D)(hV:V < W32 ^ m)(hs1:∀j,j < m→w.cell? ⟨b1,o1+j,none⟩=some (.int .u32 (dg W32 V j:Nat)))(hq:q < 4294967296):
  Calls Tryz.prog 180 #[.slice (some ⟨b0,i,none⟩) n cap,.slice (some ⟨b1,o1,none⟩) m cb,.int .u32 q] w
   fun e w'=>∃c bo X:Nat,e=.returned (.bool (decide (bo=1)))∧Take w b0 L D i q V m n c bo X w':=by
 go_enter Tryz.func180,Tryz.ntmps180;go_wp2_with fail
 go_loopw [7,8,14] (TakeRel w b0 L D i n q V m) (fun _ _ ct _=>n - (intOf ct).toNat)
 case atStart=>exact⟨0,0,0,0,by omega,rfl,rfl,rfl,fun _=>rfl,by simp,by simp [Nat.mod_one],by omega,by omega,Only.refl _ _,by rw[mix_start];exact hrow⟩
 case round=>
  obtain⟨j,c,bo,X,hj,rfl,rfl,rfl,hc0,hX,hXe,hc,hbo,hO,hR⟩:=hrel
  by_cases hlt:j < n
  ·have hcell:=hR.cell (show i+j < L by omega);have hfrz:=hR.frozen (i+j);rw[dg_mix hX] at hcell;have hwb:=word_any (some ⟨b1,o1,none⟩) m cb V j wr (by omega) (by omega) hV (fun _=>⟨b1,o1,rfl,fun t ht=>by rw[hO.cell (p:=⟨b1,o1+t,none⟩) hne];exact hs1 t ht⟩);have hd:=dg_u32 (D / W32 ^ i) j;have hv:=dg_u32 V j;have Hv0:=hid (fun (h:m≤j)=>dg_zero' W32_pos hV h);have HX:=hid hX;have HR:=hid (fun s c' b' h=>take_round (s:=s) (c':=c') (b':=b') hXe h);have HM:=hid (fun s=>mix_set (D:=D) (i:=i) (P:=D / W32 ^ i) (s:=s) hX);have HrowO:=hid (Ai hO hR);clear hX hXe hs1 hrow hO hR hc0;generalize dg W32 (D / W32 ^ i) j=d at *;generalize dg W32 V j=v at *;have hqv0:q*v≤4294967295*4294967295:=Nat.mul_le_mul (by omega) (by omega)
   have hqv:(q:Int)*(v:Int)≤18446744065119617025:=by rw[←Int.natCast_mul];omega
   have hqv1:0≤(q:Int)*(v:Int):=Int.mul_nonneg (by omega) (by omega)
   have hand:bits .and .u64 ((c:Int)+(q:Int)*(v:Int)) 4294967295=(((c+q*v) % 4294967296:Nat):Int):=by
    rw[←and_low _ (by omega)];rfl
   generalize hm0:(c+q*v) % 4294967296=m0 at *
   have hm1:m0 < 4294967296:=by rw[←hm0];exact Nat.mod_lt _ (by omega)
   have Hm0:=hid hm0;clear hm0
   by_cases hb:m0+bo≤d
   ·go_wp2_with fail;refine hwb.mono ?_;rintro e w' ⟨rfl,rfl⟩;clear hwb;go_wp2_with fail
    go_roundw
    case rel=>
     have hs:d - m0 - bo < W32:=by rw[W32_val];omega
     refine⟨j+1,(c+q*v) / 4294967296,0,X+W32 ^ j*(d - m0 - bo),by omega,by go_num,congrArg (Value.int .u64) (by rw[←Int.natCast_mul];omega),congrArg (Value.int .u64) (by omega),fun h=>(by have h0:=Hv0.out (by omega);subst h0;omega),add_lt HX.out hs,
      HR.out _ _ _ (by have:=Hm0.out;rw[W32_val];omega),by omega,by omega,HrowO.out.1.setCell _ _,?_⟩
     have h:=HrowO.out.2.set (i+j) _ hs;rw[HM.out,show((d - m0 - bo:Nat):Int)=(d:Int) - m0 - bo by omega] at h;exact h
    case measure=>simp [intOf];omega
   ·have hw:=u64_take d m0 bo hd hm1 hbo (by omega);have Hw:=hid hw;clear hw;go_wp2_with fail;refine hwb.mono ?_;rintro e w' ⟨rfl,rfl⟩;clear hwb;go_wp2_with fail
    go_roundw
    case rel=>
     have hs:4294967296+d - m0 - bo < W32:=by rw[W32_val];omega
     rw[Hw.out]
     refine⟨j+1,(c+q*v) / 4294967296,1,X+W32 ^ j*(4294967296+d - m0 - bo),by omega,by go_num,congrArg (Value.int .u64) (by rw[←Int.natCast_mul];omega),congrArg (Value.int .u64) (by omega),fun h=>(by have h0:=Hv0.out (by omega);subst h0;omega),add_lt HX.out hs,
      HR.out _ _ _ (by have:=Hm0.out;rw[W32_val];omega),by omega,by omega,HrowO.out.1.setCell _ _,?_⟩
     have h:=HrowO.out.2.set (i+j) _ hs;rw[HM.out,show((4294967296+d - m0 - bo:Nat):Int)=((18446744073709551616+d - m0 - bo:Nat):Int) % 4294967296 by omega] at h;exact h
    case measure=>simp [intOf];omega
  ·have hj':j=n:=by omega
   subst hj';have HT:=hid (show Take w b0 L D i q V m j c bo X wr from⟨hc0,hX,hXe,hc,hbo,hO,hR⟩)
   have hdec:decide (bo=1)=((bo:Int) == 1):=by rw[Bool.eq_iff_iff];simp only[decide_eq_true_eq,beq_iff_eq];omega
   have Hdec:=hid hdec;clear hX hXe hO hR hrow hs1 hV hdec hc0;go_wp2_with fail
   go_ret
   exact⟨c,bo,X,by rw[Hdec.out];rfl,HT.out⟩
def Put (w0:World) (b0 L D i V:Nat) (j:Nat) (c X:Nat) (w:World):Prop:=
 X < W32 ^ j∧X+W32 ^ j*c=(D / W32 ^ i) % W32 ^ j+V % W32 ^ j∧c≤1∧Only b0 w0 w∧DRow w b0 L (mixd D i j X (D / W32 ^ i))
def PutRel (w0:World) (b0 L D i n V:Nat) (c ct:Value) (w:World):Prop:=
 ∃j cc X:Nat,j≤n∧ct=.int .i64 j∧c=.int .u64 cc∧Put w0 b0 L D i V j cc X w
theorem putBack_any(b0 i n cap b1 o1 m cb L D V:Nat)(w:World)(hn:n≤1000000000)(hi:i+n≤L)(hL:L≤4000000000)(hm:m≤1000000000)(hne:b1≠b0)
  (hrow:DRow w b0 L D)(hV:V < W32 ^ m)(hs1:∀j,j < m→w.cell? ⟨b1,o1+j,none⟩=some (.int .u32 (dg W32 V j:Nat))):
  Calls Tryz.prog 181 #[.slice (some ⟨b0,i,none⟩) n cap,.slice (some ⟨b1,o1,none⟩) m cb] w
   fun e w'=>∃c X:Nat,e=.returned (.tuple #[])∧Put w b0 L D i V n c X w':=by
 go_enter Tryz.func181,Tryz.ntmps181;go_wp2_with fail
 go_loopw [4,9] (PutRel w b0 L D i n V) (fun _ ct _=>n - (intOf ct).toNat)
 case atStart=>exact⟨0,0,0,by omega,rfl,rfl,by simp,by simp [Nat.mod_one],by omega,Only.refl _ _,by rw[mix_start];exact hrow⟩
 case round=>
  obtain⟨j,c,X,hj,rfl,rfl,hX,hXe,hc,hO,hR⟩:=hrel
  by_cases hlt:j < n
  ·have hcell:=hR.cell (show i+j < L by omega);have hfrz:=hR.frozen (i+j);rw[dg_mix hX] at hcell;have hwb:=word_any (some ⟨b1,o1,none⟩) m cb V j wr (by omega) (by omega) hV (fun _=>⟨b1,o1,rfl,fun t ht=>by rw[hO.cell (p:=⟨b1,o1+t,none⟩) hne];exact hs1 t ht⟩);have hd:=dg_u32 (D / W32 ^ i) j;have hv:=dg_u32 V j;have HX:=hid hX;have HR:=hid (fun s c' h=>add_round (s:=s) (c':=c') hXe h);have HM:=hid (fun s=>mix_set (D:=D) (i:=i) (P:=D / W32 ^ i) (s:=s) hX);have HrowO:=hid (Ai hO hR);clear hX hXe hs1 hrow hO hR hV;generalize dg W32 (D / W32 ^ i) j=d at *;generalize dg W32 V j=v at *;go_wp2_with fail;refine hwb.mono ?_;rintro e w' ⟨rfl,rfl⟩;clear hwb;go_wp2_with fail
   go_roundw
   case rel=>
    have hs:(c+(d+v)) % 4294967296 < W32:=Nat.mod_lt _ (by decide)
    refine⟨j+1,(c+(d+v)) / 4294967296,X+W32 ^ j*((c+(d+v)) % 4294967296),by omega,by go_num,congrArg (Value.int .u64) (by omega),add_lt HX.out hs,
     HR.out _ _ (by rw[W32_val];omega),by omega,HrowO.out.1.setCell _ _,?_⟩
    have h:=HrowO.out.2.set (i+j) _ hs;rw[HM.out,show(((c+(d+v)) % 4294967296:Nat):Int)=((c:Int)+(d+v)) % 4294967296 by omega] at h;exact h
   case measure=>simp [intOf];omega
  ·have hj':j=n:=by omega
   subst hj';have HT:=hid (show Put w b0 L D i V j c X wr from⟨hX,hXe,hc,hO,hR⟩);clear hX hXe hO hR hrow hs1 hV;go_wp2_with fail
   go_end0
   exact⟨c,X,rfl,HT.out⟩
theorem mix_end{D i n X P:Nat}(hP:P < W32 ^ n):mixd D i n X P=D % W32 ^ i+W32 ^ i*X:=by
 unfold mixd;rw[Nat.div_eq_of_lt hP,Nat.mul_zero,Nat.add_zero]
theorem mix_div(D i X:Nat):(D % W32 ^ i+W32 ^ i*X) / W32 ^ i=X∧(D % W32 ^ i+W32 ^ i*X) % W32 ^ i=D % W32 ^ i:=by
 have h1:D % W32 ^ i < W32 ^ i:=Nat.mod_lt _ (Nat.pow_pos W32_pos);constructor
 ·rw[Nat.add_mul_div_left _ _ (Nat.pow_pos W32_pos),Nat.div_eq_of_lt h1,Nat.zero_add]
 ·rw[Nat.add_mul_mod_self_left,Nat.mod_eq_of_lt h1]
theorem take_fact{P V W q c bo X:Nat}(hX:X < W)(hP:P < W)(hV0:0 < V)(hc:c=0)(hbo:bo≤1)(he:X+q*V=P+W*(c+bo))(h1:P / V≤q)(h2:q≤P / V+1):
  (bo=0→q=P / V∧X=P % V)∧(bo=1→1≤q∧q - 1=P / V∧∀X' c',X' < W→X'+W*c'=X+V→X'=P % V):=by
 subst hc;have hm:=Nat.mod_add_div P V;have hr:P % V < V:=Nat.mod_lt _ hV0;generalize hd:P / V=d at *;generalize P % V=r at *
 have hq:q=d∨q=d+1:=by omega
 constructor
 ·rintro rfl
  rcases hq with rfl | rfl
  ·refine⟨rfl,?_⟩;rw[Nat.mul_comm V] at hm;simp at he;omega
  ·exfalso
   rw[Nat.succ_mul] at he;rw[Nat.mul_comm V] at hm;simp at he;omega
 ·rintro rfl
  rcases hq with rfl | rfl
  ·exfalso
   rw[Nat.mul_comm V] at hm;simp at he;omega
  ·refine⟨by omega,by omega,fun X' c' hX' he'=>?_⟩;rw[Nat.succ_mul] at he;rw[Nat.mul_comm V] at hm;simp at he
   have h5:X+V=r+W:=by omega
   rcases Nat.lt_trichotomy c' 1 with hc | hc | hc
   ·obtain rfl:c'=0:=by omega
    simp at he';omega
   ·subst hc;omega
   ·exfalso
    have:W*2≤W*c':=Nat.mul_le_mul_left _ hc;omega
theorem long_round{D0 D Q V t q:Nat}(hV:0 < V)(h:D0=V*Q+D)(hD:D < V*W32 ^ (t+1))(hq:q=D / W32 ^ t / V):
  D0=V*(Q+W32 ^ t*q)+(D % W32 ^ t+W32 ^ t*(D / W32 ^ t % V))∧D % W32 ^ t+W32 ^ t*(D / W32 ^ t % V) < V*W32 ^ t∧q < W32:=by
 have h1:=Nat.mod_add_div D (W32 ^ t);have h2:=Nat.mod_add_div (D / W32 ^ t) V;rw[←hq] at h2;have h3:D % W32 ^ t < W32 ^ t:=Nat.mod_lt _ (Nat.pow_pos W32_pos);have h4:D / W32 ^ t % V < V:=Nat.mod_lt _ hV
 have h5:D / W32 ^ t < V*W32:=by
  refine Nat.div_lt_of_lt_mul ?_;rw[Nat.pow_succ,←Nat.mul_assoc] at hD;rw[Nat.mul_comm,Nat.mul_right_comm];exact hD
 generalize hP:D / W32 ^ t=P at *;generalize P % V=r at *;generalize D % W32 ^ t=l at *;generalize W32 ^ t=W at *;refine⟨?_,?_,?_⟩
 ·rw[h,←h1,←h2];grind
 ·have:W*(r+1)≤W*V:=Nat.mul_le_mul_left _ h4;rw[Nat.mul_add,Nat.mul_comm W V] at this;omega
 ·rw[hq];exact Nat.div_lt_of_lt_mul h5
theorem lt_big{x a:Nat}(h:x < W32 ^ a)(hab:a≤1000000000):x < W32 ^ 1000000000:=by
 generalize 1000000000=b at *;exact Nat.lt_of_lt_of_le h (Nat.pow_le_pow_right W32_pos hab)
theorem lt_pow{x a b:Nat}(h:x < W32 ^ a)(hab:a≤b):x < W32 ^ b:=Nat.lt_of_lt_of_le h (Nat.pow_le_pow_right W32_pos hab)
theorem LZ_nat(x:Nat)(w:World)(hx:x < 4294967296):
  Calls Tryz.prog 178 #[.int .u32 x] w fun e w'=>∃s:Nat,e=.returned (.int .i64 s)∧s≤32∧Len 2 x (32 - s)∧w=w':=
 (LeadingZeros32_any x w hx).mono fun _ _ ⟨b,he,hb,hl,hw⟩=>⟨32 - b,by rw[he];exact ret_i64 (by omega),by omega,by rw[show 32 - (32 - b)=b by omega];exact hl,hw⟩
theorem norm_fact{y n s:Nat}(hl:Len W32 y (n+1))(hs:s≤32)(ht:Len 2 (dg W32 y n) (32 - s)):
  Len W32 (y*2 ^ s) (n+1)∧2147483648≤dg W32 (y*2 ^ s) n:=by
 have hne:=hl.top W32_pos (by omega);simp only[Nat.add_sub_cancel] at hne
 have hs1:s < 32:=by
  rcases Nat.lt_or_ge s 32 with h | h
  ·exact h
  ·obtain rfl:s=32:=by omega
   exact absurd ht.eq_zero hne
 rw[dg_top hl.1] at ht
 have hW:W32=2 ^ (32 - s)*2 ^ s:=by rw[←Nat.pow_add,show 32 - s+s=32 by omega];rfl
 have h1:y < W32 ^ n*2 ^ (32 - s):=(Nat.div_lt_iff_lt_mul (Nat.pow_pos W32_pos)).1 ht.1 |> fun h=>by rwa [Nat.mul_comm] at h
 have h2:2 ^ (32 - s - 1)*W32 ^ n≤y:=(Nat.le_div_iff_mul_le (Nat.pow_pos W32_pos)).1 (ht.2 (by omega))
 have h3:y*2 ^ s < W32 ^ (n+1):=by
  have h7:W32 ^ n*W32=W32 ^ n*2 ^ (32 - s)*2 ^ s:=by rw[Nat.mul_assoc,←hW]
  rw[Nat.pow_succ,h7];exact Nat.mul_lt_mul_of_pos_right h1 (Nat.pow_pos (by omega))
 have h4:2147483648*W32 ^ n≤y*2 ^ s:=by
  have h5:=Nat.mul_le_mul_right (2 ^ s) h2
  have h6:2 ^ (32 - s - 1)*W32 ^ n*2 ^ s=2147483648*W32 ^ n:=by
   rw[Nat.mul_right_comm,←Nat.pow_add,show 32 - s - 1+s=31 by omega]
  rwa [h6] at h5
 refine⟨⟨h3,fun _=>?_⟩,?_⟩
 ·simp only[Nat.add_sub_cancel];have:1*W32 ^ n≤2147483648*W32 ^ n:=Nat.mul_le_mul_right _ (by omega);omega
 ·rw[dg_top h3];exact(Nat.le_div_iff_mul_le (Nat.pow_pos W32_pos)).2 h4
theorem long_start{x y a b:Nat}(hx:x < W32 ^ a)(hy:Len W32 y (b+1))(hab:b≤a)(s:Nat):x*2 ^ s < y*2 ^ s*W32 ^ (a - b):=by
 have h1:=hy.2 (by omega);simp only[Nat.add_sub_cancel] at h1;have h2:W32 ^ b*W32 ^ (a - b)≤y*W32 ^ (a - b):=Nat.mul_le_mul_right _ h1;rw[←Nat.pow_add,show b+(a - b)=a by omega] at h2;rw[Nat.mul_right_comm];exact Nat.mul_lt_mul_of_pos_right (by omega) (Nat.pow_pos (by omega))
theorem Mk.below{B:Nat}{w0 w w':World}{N X:Nat}(h:Mk B w0 w N X)(hb:Bw w w'):Mk B w0 w' N X:=
 ⟨h.bel.trans (hb.mono h.bel.size),rowIs_below h.row hb⟩
def LongRel (w1:World) (Db Qb L lq D0 V:Nat) (ct:Value) (w:World):Prop:=
 ∃k D Q:Nat,k≤lq∧ct=.int .i64 ((k:Int) - 1)∧Below Db w1 w∧DRow w Db L D∧DRow w Qb lq Q∧D0=V*Q+D∧D < V*W32 ^ k∧∃Q',Q=W32 ^ k*Q'
theorem LongRel.next{w1 w5:World}{Db Qb L lq D0 V t q D Q P:Nat}(hB:Below Db w1 w5)(hP:P=D / W32 ^ t)(hV:0 < V)(hD:DRow w5 Db L (D % W32 ^ t+W32 ^ t*(P % V)))(hQ:DRow w5 Qb lq Q)
  (hDQ:D0=V*Q+D)(hDlt:D < V*W32 ^ (t+1))(hQ':∃Q',Q=W32 ^ (t+1)*Q')(hq:q=P / V)(hDb:Db < Qb)(ht:t≤lq):
  LongRel w1 Db Qb L lq D0 V (.int .i64 ((t:Int) - 1)) (w5.setCell ⟨Qb,t,none⟩ (.int .u32 (q:Nat))):=by
 obtain⟨Q1,hQ1⟩:=hQ';subst hP;obtain⟨h1,h2,h3⟩:=long_round hV hDQ hDlt hq;refine⟨t,_,_,ht,rfl,hB.setCell (Nat.le_of_lt hDb) _,hD.setOther (by show Db≠Qb;omega) _,hQ.set t q h3,?_,h2,?_⟩
 ·have h4:=setd_val W32 Q t q;rw[hQ1,dg_mul_pow_lt W32_pos (Nat.lt_succ_self t),Nat.mul_zero,Nat.add_zero,←hQ1] at h4;rw[h4];exact h1
 ·have h4:=setd_val W32 Q t q;rw[hQ1,dg_mul_pow_lt W32_pos (Nat.lt_succ_self t),Nat.mul_zero,Nat.add_zero,←hQ1] at h4;refine⟨W32*Q1+q,?_⟩;rw[h4,hQ1,Nat.pow_succ];grind
theorem divLong_any(va vb:Value)(x y:Nat)(w:World)(ha:Rep W32 w va x)(hb:Rep W32 w vb y)(hx:x < W32 ^ 900000000)(hyx:y≤x)(hy:W32≤y):
  Calls Tryz.prog 170 #[va,vb] w fun e w'=>∃q r,e=.returned (.tuple #[q,r])∧Rep W32 w' q (x / y)∧Rep W32 w' r (x % y)∧Bw w w':=by
 have hRa:=hid ha;have hRb:=hid hb;have Hx:=hid hx;obtain⟨pa,na,ca,rfl,hca,hla,hsa⟩:=ha;obtain⟨pb,nb,cb,rfl,hcb,hlb,hsb⟩:=hb;have hna:=hla.le W32_pos hx;have hnb:nb≤na:=hlb.le W32_pos (Nat.lt_of_le_of_lt hyx hla.1)
 obtain⟨k,rfl⟩:∃k,nb=k+2:=⟨nb - 2,by
  rcases Nat.lt_or_ge nb 2 with h | h
  ·have h1:=hlb.1;have h2:=Nat.pow_le_pow_right W32_pos (show nb≤1 by omega);rw[Nat.pow_one] at h2;omega
  ·omega⟩
 obtain⟨b1,o1,rfl,hcb1⟩:=hsb (by omega);have htop:=hcb1 (k+1) (by omega);have hlz:=LZ_nat (dg W32 y (k+1)) w (dg_u32 _ _);have Hhy:=hid (Ai hyx hy);have hyb:=lt_big hlb.1 (by omega);have hxb:=lt_big hla.1 (by omega);have Hxb:=hid hxb;have Hyb:=hid hyb;have Hsa:=hid hsa;have Hlb:=hid hlb;have Hla:=hid hla;clear hx hyx hy hsa hsb hcb1 hyb hxb;generalize hT:dg W32 y (k+1)=T at *;have HT:=hid hT;clear hT hla hlb;have hmk:=Tryz.mk (na+1) (by omega);have hmq:=Tryz.mk (na - (k+2)+1) (by omega);simp only[Int.natCast_add,Int.cast_ofNat_Int] at hmk;rw[show((na - (k+2)+1:Nat):Int)=(na:Int) - ((k:Int)+2)+1 by omega] at hmq;go_enter Tryz.func170,Tryz.ntmps170;go_wp2_with fail;refine hlz.mono ?_;rintro e w' ⟨s,rfl,hs,htl,rfl⟩;have hnorm:Len W32 (y*2 ^ s) (k+2)∧2147483648≤dg W32 (y*2 ^ s) (k+1):=norm_fact Hlb.out hs (by rw[HT.out];exact htl);have HN:=hid hnorm;clear hlz hnorm htl htop;go_wp2_with fail;refine(Shl_any _ y s _ hRb.out Hyb.out (by omega)).mono ?_;rintro e w1 ⟨v1,rfl,hR1,hB1⟩;have HR1:=hid hR1;obtain⟨pv,nv,cv,rfl,hcv,hlv,hsv⟩:=hR1;obtain rfl:=hlv.unique W32_one HN.out.1;obtain⟨bv,ov,rfl,hcv1⟩:=hsv (by omega);have hbv:bv < w1.heap.size:=World.block_lt_of_cell? _ _ (hcv1 0 (by omega));have HC:=hid hcv1;have HB1:=hid hB1;have HRa1:=hid ((hRa.out.below hB1).alloc (.cells (madeCells #[.int .u32 0] (na+1)) 65));clear hsv hcv1 hlv hB1;have HM1:=hid (Mk.start W32 w1 (na+1));go_wp2_with fail;refine(Shl_any _ x s _ HRa1.out Hxb.out (by omega)).mono ?_;rintro e w3 ⟨v2,rfl,hR3,hB3⟩;obtain⟨p3,n3,c3,rfl,hc3,hl3,hs3⟩:=hR3
 have hx0:x*2 ^ s < W32 ^ (na+1):=by
  rw[Nat.pow_succ];refine Nat.lt_of_lt_of_le (Nat.mul_lt_mul_of_pos_right Hla.out.1 (Nat.pow_pos (by omega))) (Nat.mul_le_mul_left _ ?_);exact Nat.pow_le_pow_right (n:=2) (by omega) hs
 have hn3:n3≤na+1:=hl3.le W32_pos hx0
 have hn30:0 < n3:=by
  rcases Nat.eq_zero_or_pos n3 with h | h
  ·subst h;have h1:=hl3.eq_zero
   have h2:0 < x:=by have:=Hhy.out;have:=W32_pos;omega
   have h3:0 < x*2 ^ s:=Nat.mul_pos h2 (Nat.pow_pos (by omega));omega
  ·exact h
 have hMc:=HM1.out.below hB3;have HMc:=hid hMc;have Hs3:=hid hs3;have hmin:x*2 ^ s % W32 ^ n3=x*2 ^ s:=Nat.mod_eq_of_lt hl3.1;have Hmin:=hid hmin;have Hx0:=hid hx0;clear hs3 hMc hmin hx0 hl3 hB3;go_wp2_with (with_reducible refine wpList_copy_digits (dT:=22) (sT:=46) (B:=W32) (w0:=w1) (N:=na+1) (n:=n3) (cap:=c3) (p:=p3) (x:=x*2 ^ s) rfl (.tmp 27) (.tmp 30) rfl Tryz.underlying22 rfl rfl W32_pos HMc.out Hs3.out hn30 ?_);intro w4 hM4;rw[Hmin.out] at hM4;have HM4:=hid hM4;have hsz4:w1.heap.size < w4.heap.size:=hM4.row.lt;have hB4:Bw w1 (w4.alloc (.cells (madeCells #[.int .u32 0] (na - (k+2)+1)) 65)):=hM4.bel.alloc (by omega) _;have HB4:=hid hB4;clear hM4 hB4 hmk;go_wp2_with fail;clear hmq;have Hq0:=hid (show na - (k+2)+1=na - (k+1) by omega);have HQ4:=hid ((World.rowIs_made w4 (.int .u32 0) (na - (k+2)+1) 65).congr (g:=fun j=>.int .u32 (dg W32 0 j:Nat)) (fun j _=>by simp [dg]));have HD4:DRow (w4.alloc (.cells (madeCells #[.int .u32 0] (na - (k+2)+1)) 65)) w1.heap.size (na+1) (x*2 ^ s):=HM4.out.row.alloc _;have HD4':=hid HD4;clear HD4
 go_loopw [10] (LongRel w1 w1.heap.size w4.heap.size (na+1) (na - (k+2)+1) (x*2 ^ s) (y*2 ^ s)) (fun i _=>(intOf i+1).toNat)
 case atStart=>
  refine⟨na - (k+2)+1,x*2 ^ s,0,Lr _,congrArg (Value.int .i64) (by omega),HB4.out,HD4'.out,HQ4.out,by omega,?_,0,by simp⟩;have:=long_start (x:=x) (b:=k+1) Hla.out.1 Hlb.out (by omega) s;rw[Hq0.out];exact this
 case round=>
  obtain⟨j,D,Q,hj,rfl,hBr,hDr,hQr,hDQ,hDlt,hQ'⟩:=hrel;have HR:=hid (Ai hDr (Ai hQr (Ai hDQ (Ai hDlt (Ai hQ' hBr)))));clear hDr hQr hDQ hDlt hQ' hBr
  rcases Nat.eq_zero_or_pos j with h0 | h0
  ·subst h0;obtain⟨hDr,hQr,hDQ,hDlt,hQ',hBr⟩:=HR.out;rw[Nat.pow_zero,Nat.mul_one] at hDlt;have hV0:0 < y*2 ^ s:=HN.out.1.pos W32_pos (by omega);have h2s:0 < 2 ^ s:=Nat.pow_pos (by omega)
   have hQv:Q=x / y:=by
    have h1:x*2 ^ s / (y*2 ^ s)=Q:=by
     rw[hDQ,Nat.mul_add_div hV0,Nat.div_eq_of_lt hDlt,Nat.add_zero]
    rw[←h1,Nat.mul_div_mul_right _ _ h2s]
   have hDv:D=(x % y)*2 ^ s:=by
    have h1:x*2 ^ s % (y*2 ^ s)=D:=by
     rw[hDQ,Nat.mul_add_mod,Nat.mod_eq_of_lt hDlt]
    rw[←h1,Nat.mul_mod_mul_right]
   have hQlt:Q < W32 ^ (na - (k+2)+1):=by
    rw[hQv];have:=long_start (x:=x) (b:=k+1) Hla.out.1 Hlb.out (by omega) 0;simp only[Nat.pow_zero,Nat.mul_one] at this;rw[Hq0.out];exact Nat.div_lt_of_lt_mul this
   have hDlt':D < W32 ^ (na+1):=Nat.lt_trans hDlt (lt_pow HN.out.1.1 (by omega))
   have hDs:D / 2 ^ s=x % y:=by rw[hDv,Nat.mul_div_cancel _ h2s]
   have hslq:=Slc.ofRow hQr;have hsld:=Slc.ofRow hDr;have HH:=hid (Ai hQv (Ai hDs (Ai hQlt (Ai hDlt' (Ai hslq (Ai hsld hBr))))));clear hDr hQr hDQ hDlt hQ' hBr hV0 h2s hQv hDv hQlt hDlt' hDs hslq hsld;go_wp2_with fail;obtain⟨hQv,hDs,hQlt,hDlt',hslq,hsld,hBr⟩:=HH.out;refine(Of_any _ _ _ Q _ (by omega) (Lr _) hQlt hslq).mono ?_;rintro e w' ⟨mq,rfl,hmq,hlq,rfl⟩;have HQ:=hid (Ai hmq hlq);clear hmq hlq hQv hDs hQlt hDlt' hslq hsld hBr;go_wp2_with fail;obtain⟨hQv,hDs,hQlt,hDlt',hslq,hsld,hBr⟩:=HH.out;refine(Of_any _ _ _ D _ (by omega) (Lr _) hDlt' hsld).mono ?_;rintro e w' ⟨md,rfl,hmd,hld,rfl⟩;have HD:=hid (Ai hmd hld);have hRD:Rep W32 wr (.slice (some ⟨w1.heap.size,0,none⟩) md (na+1)) D:=⟨_,_,_,rfl,hmd,hld,hsld.take hmd⟩;have HRD:=hid (Ai hRD (lt_big hDlt' (by omega)));clear hmd hld hQv hDs hQlt hDlt' hslq hsld hBr hRD;go_wp2_with fail;refine(Shr_any _ D s _ HRD.out.1 HRD.out.2 (by omega)).mono ?_;rintro e w6 ⟨vr,rfl,hR6,hB6⟩;go_wp2_with fail
   go_ret2
   obtain⟨hQv,hDs,hQlt,hDlt',hslq,hsld,hBr⟩:=HH.out;rw[hDs] at hR6;have hRq:Rep W32 wr (.slice (some ⟨w4.heap.size,0,none⟩) mq (na - (k+2)+1)) Q:=⟨_,_,_,rfl,HQ.out.1,HQ.out.2,hslq.take HQ.out.1⟩;rw[hQv] at hRq;exact⟨_,_,rfl,hRq.below hB6,hR6,(HB1.out.trans (hBr.mono HB1.out.size)).trans (hB6.mono (Nat.le_trans HB1.out.size hBr.size))⟩
  ·obtain⟨t,rfl⟩:∃t,j=t+1:=⟨j - 1,by omega⟩
   have e1:((t+1:Nat):Int) - 1=t:=by omega
   rw[e1];clear e1;go_wp2_with fail;rw[show t+(k+2)+1 - t=k+3 by omega];obtain⟨hDr,hQr,hDQ,hDlt,hQ',hBr⟩:=HR.out;have hV0:0 < y*2 ^ s:=HN.out.1.pos W32_pos (by omega)
   have hPV:D / W32 ^ t < W32*(y*2 ^ s):=by
    refine Nat.div_lt_of_lt_mul ?_;rw[Nat.pow_succ,←Nat.mul_assoc] at hDlt;rw[Nat.mul_comm W32,←Nat.mul_assoc,Nat.mul_comm (W32 ^ t)];exact hDlt
   have hPlt:D / W32 ^ t < W32 ^ (k+3):=by
    refine Nat.lt_of_lt_of_le hPV ?_;rw[Nat.pow_succ W32 (k+2),Nat.mul_comm];exact Nat.mul_le_mul_right _ (Nat.le_of_lt HN.out.1.1)
   have hVlt3:y*2 ^ s < W32 ^ (k+3):=lt_pow HN.out.1.1 (by omega)
   have hs0:∀j,j < k+3→wr.cell? ⟨w1.heap.size,t+j,none⟩=some (.int .u32 (dg W32 (D / W32 ^ t) j:Nat)):=fun j hj=>by
    rw[dg_div_pow];exact hDr.cell (by omega)
   have hs1:∀j,j < k+2→wr.cell? ⟨bv,ov+j,none⟩=some (.int .u32 (dg W32 (y*2 ^ s) j:Nat)):=fun j hj=>by
    rw[hBr.cell (p:=⟨bv,ov+j,none⟩) hbv];exact HC.out j hj
   refine(estimate_any w1.heap.size t _ bv ov cv k (D / W32 ^ t) (y*2 ^ s) wr (by omega) hs0 hs1 hPlt HN.out.1.1 hPV HN.out.2).mono ?_;rintro e w' ⟨q,rfl,hq,hq1,hq2,n,rfl⟩;have hBr':=below_drewN hBr n;have hDr':DRow (wr.drewN n) w1.heap.size (na+1) D:=hDr;have hQr':DRow (wr.drewN n) w4.heap.size (na - (k+2)+1) Q:=hQr;have hs1':∀j,j < k+2→(wr.drewN n).cell? ⟨bv,ov+j,none⟩=some (.int .u32 (dg W32 (y*2 ^ s) j:Nat)):=hs1;have HH:=hid (Ai hBr' (Ai hDr' (Ai hQr' (Ai hs1' (Ai hDQ (Ai hDlt (Ai hQ' (Ai hPlt (Ai hVlt3 (Ai hV0 (Ai hq1 hq2)))))))))));clear hBr hDr hQr hs0 hs1 hDQ hDlt hQ' hPV hPlt hVlt3 hV0 hBr' hDr' hQr' hs1' hq1 hq2;go_wp2_with fail;obtain⟨hBr,hDr,hQr,hs1,hDQ,hDlt,hQ',hPlt,hVlt3,hV0,hq1,hq2⟩:=HH.out;refine(takeAway_any w1.heap.size t (k+3) _ bv ov (k+2) cv q (na+1) D (y*2 ^ s) (wr.drewN n) (by omega) (by omega) (by omega) (by omega) (by omega) hDr HN.out.1.1 hs1 hq).mono ?_;rintro e w5 ⟨c,bo,X,rfl,hT⟩;obtain⟨hc0,hX,hXe,_,hbo,hO,hR5⟩:=hT;rw[mix_end hPlt] at hR5;rw[Nat.mod_eq_of_lt hPlt,Nat.mod_eq_of_lt hVlt3] at hXe;have tf:=take_fact hX hPlt hV0 (hc0 (by omega)) hbo hXe hq1 hq2;have hQ5:=hO.row (c:=w4.heap.size) (by omega) hQr;have hB5:=hO.below (Lr _) hBr;have hcell:=hQ5.cell (show t < na - (k+2)+1 by omega);have hfrz:=hQ5.frozen t
   rcases(show bo=0∨bo=1 by omega) with rfl | rfl
   ·have hf:decide ((0:Nat)=1)=false:=rfl;obtain⟨e1,e2⟩:=tf.1 rfl;have HH5:=hid (Ai hB5 (Ai hR5 (Ai hQ5 (Ai hDQ (Ai hDlt (Ai hQ' (Ai hV0 (Ai e1 e2))))))));clear hB5 hR5 hQ5 hDQ hDlt hQ' hV0 e1 e2 tf hXe hX hPlt hVlt3 hq1 hq2 hs1 hQr hDr hBr hO hc0 hbo;go_wp2_with fail
    go_roundw
    case rel=>
     obtain⟨hB5,hR5,hQ5,hDQ,hDlt,hQ',hV0,e1,e2⟩:=HH5.out;rw[e2] at hR5;exact LongRel.next hB5 rfl hV0 hR5 hQ5 hDQ hDlt hQ' e1 hsz4 (by omega)
    case measure=>simp [intOf]
   ·have hf:decide ((1:Nat)=1)=true:=rfl;obtain⟨e0,e1,e2⟩:=tf.2 rfl
    have hs5:∀j,j < k+2→w5.cell? ⟨bv,ov+j,none⟩=some (.int .u32 (dg W32 (y*2 ^ s) j:Nat)):=fun j hj=>by
     rw[hO.cell (p:=⟨bv,ov+j,none⟩) (by show bv≠w1.heap.size;omega)];exact hs1 j hj
    have HH5:=hid (Ai hB5 (Ai hR5 (Ai hQ5 (Ai hDQ (Ai hDlt (Ai hQ' (Ai hV0 (Ai e1 (Ai e2 (Ai hs5 (Ai hX (Ai hVlt3 hO))))))))))));clear hB5 hR5 hQ5 hDQ hDlt hQ' hV0 e1 e2 tf hXe hX hPlt hVlt3 hq1 hq2 hs1 hQr hDr hBr hO hc0 hbo hs5 hcell hfrz
    have hq0':(1:Int)≤(q:Int):=by omega
    go_wp2_with fail;obtain⟨hB5,hR5,hQ5,hDQ,hDlt,hQ',hV0,e1,e2,hs5,hX,hVlt3,hO⟩:=HH5.out;refine(putBack_any w1.heap.size t (k+3) _ bv ov (k+2) cv (na+1) _ (y*2 ^ s) w5 (by omega) (by omega) (by omega) (by omega) (by omega) hR5 HN.out.1.1 hs5).mono ?_;rintro e w6 ⟨c',X',rfl,hX',hXe',hc',hO6,hR6⟩;have hmd:=mix_div D t X;rw[hmd.1,Nat.mod_eq_of_lt hX,Nat.mod_eq_of_lt hVlt3] at hXe';rw[hmd.1,mix_end hX,hmd.2,e2 X' c' hX' hXe'] at hR6;have hQ6:=hO6.row (c:=w4.heap.size) (by omega) hQ5;have hB6:=hO6.below (Lr _) hB5;have hcell:=hQ6.cell (show t < na - (k+2)+1 by omega);have hfrz:=hQ6.frozen t;have HH6:=hid (Ai hB6 (Ai hR6 (Ai hQ6 (Ai hDQ (Ai hDlt (Ai hQ' (Ai hV0 e1)))))));clear hB5 hR5 hQ5 hDQ hDlt hQ' hV0 e1 e2 hs5 hX hVlt3 hO hX' hXe' hc' hO6 hR6 hQ6 hB6 hmd;go_wp2_with fail
    go_roundw
    case rel=>
     obtain⟨hB6,hR6,hQ6,hDQ,hDlt,hQ',hV0,e1⟩:=HH6.out;rw[show(q:Int) - 1=((q - 1:Nat):Int) by omega];exact LongRel.next hB6 rfl hV0 hR6 hQ6 hDQ hDlt hQ' e1 hsz4 (by omega)
    case measure=>simp [intOf]
theorem Rep.drewN{B:Nat}{w:World}{v:Value}{x:Nat}(h:Rep B w v x)(n:Nat):Rep B (w.drewN n) v x:=h.below (below_drewN (Br _ _) n)
theorem cmp3_ge{a b:Nat}(h:b≤a):0≤cmp3 a b:=by
 unfold cmp3;split
 ·omega
 ·split<;>omega
theorem pow_of_tz{y z b:Nat}(h:Tz y z)(hl:Len 2 y b)(e:z+1=b):y=2 ^ z:=by
 obtain⟨m,hm,ho⟩:=h;have h1:=hl.1;rw[←e,Nat.pow_succ,hm] at h1;have h2:=Nat.lt_of_mul_lt_mul_left h1
 obtain rfl:m=1:=by omega
 rw[hm,Nat.mul_one]
theorem Div_any(va vb:Value)(x y:Nat)(w:World)(ha:Rep W32 w va x)(hb:Rep W32 w vb y)(hx:x < W32 ^ 900000000)(hy:y < W32 ^ 900000000)(hy0:0 < y)(ht:TabOk w):
  Calls Tryz.prog 146 #[va,vb] w fun e w'=>∃q r,e=.returned (.tuple #[q,r])∧Rep W32 w' q (x / y)∧Rep W32 w' r (x % y)∧Bw w w':=by
 have hxB:=lt_big hx (by omega);have hyB:=lt_big hy (by omega);have hz:=Zeros_any vb y w hb hyB hy0 ht;have hc:=Compare_any va vb x y w ha hb hxB hyB
 have hbits:=fun q=>Bits_any vb y (w.drewN q) (hb.drewN q) hyB
 have Ha:=hid ha;have Hb:=hid hb;obtain⟨pb,nb,cb,rfl,hcb,hlb,hsb⟩:=hb;have hnb:=hlb.le W32_pos hyB
 have hnb0:0 < nb:=by
  rcases Nat.eq_zero_or_pos nb with h | h
  ·subst h;have:=hlb.eq_zero;omega
  ·exact h
 have Hlb:=hid hlb;have Hsb:=hid hsb;have Hlt:=hid (Ai hx (Ai hxB (Ai hyB hy0)));have Hbits:=hid hbits;clear ha hx hxB hyB hbits hy hy0 ht hlb hsb
 by_cases hlt:x < y
 ·rw[cmp3_lt hlt] at hc;go_enter Tryz.func146,Tryz.ntmps146;go_wp2_with fail;refine hz.mono ?_;rintro e w' ⟨z,rfl,_,rfl⟩;clear hz;go_wp2_with fail;refine hc.mono ?_;rintro e w' ⟨rfl,q,rfl⟩;clear hc;go_wp2_with fail
  go_ret2
  rw[Nat.div_eq_of_lt hlt,Nat.mod_eq_of_lt hlt];exact⟨_,_,rfl,Rep.nil,Ha.out.drewN q,below_drewN (Br _ _) q⟩
 ·have hge:y≤x:=by omega
  have hcge:=cmp3_ge hge;generalize cmp3 x y=c at *;go_enter Tryz.func146,Tryz.ntmps146;go_wp2_with fail;refine hz.mono ?_;rintro e w' ⟨z,rfl,htz,rfl⟩;have Htz:=hid htz;clear hz htz;go_wp2_with fail;refine hc.mono ?_;rintro e w' ⟨rfl,q,rfl⟩;clear hc;go_wp2_with fail;refine(Hbits.out q).mono ?_;rintro e w' ⟨b,rfl,hlen,rfl⟩
  have hb1:0 < b:=by
   rcases Nat.eq_zero_or_pos b with h | h
   ·subst h;have h1:=hlen.eq_zero;have h2:=Hlt.out.2.2.2;omega
   ·exact h
  have hb2:b≤32*nb:=hlen.le (by omega) (by rw[←W32_pow];exact Hlb.out.1);have Hlen:=hid hlen;clear hlen
  by_cases hzb:z+1=b
  ·have hy2:=pow_of_tz Htz.out Hlen.out hzb;have Hy2:=hid hy2
   have he:((z:Int) == (b:Int) - 1)=true:=by simp;omega
   have hzs:z≤1000000000000:=by omega
   clear hy2 hzb;go_wp2_with fail;refine(Shr_any va x z _ (Ha.out.drewN q) Hlt.out.2.1 hzs).mono ?_;rintro e w1 ⟨v1,rfl,hR1,hB1⟩;have HR1:=hid hR1;clear hR1;go_wp2_with fail;refine(tail_any va x z _ ((Ha.out.drewN q).below hB1) Hlt.out.2.1 (by rw[←Hy2.out];exact hge)).mono ?_;rintro e w2 ⟨v2,rfl,hR2,hB2⟩;go_wp2_with fail
   go_ret2
   rw[Hy2.out];exact⟨_,_,rfl,HR1.out.below hB2,hR2,(below_drewN (Br _ _) q).trans ((hB1.mono (Lr _)).trans (hB2.mono hB1.size))⟩
  ·have he:((z:Int) == (b:Int) - 1)=false:=by simp;omega
   clear hzb
   by_cases hn1:nb=1
   ·subst hn1;have hy1:y < W32 ^ 1:=Hlb.out.1
    have hdg:dg W32 y 0=y:=by rw[dg_top (i:=0) hy1];simp
    obtain⟨b1,o1,rfl,hc1⟩:=Hsb.out (by omega)
    have hc0:w.cell? ⟨b1,o1,none⟩=some (.int .u32 (y:Nat)):=by have:=hc1 0 (by omega);rw[hdg] at this;exact this
    have hy32:y < 4294967296:=by rw[Nat.pow_one] at hy1;exact hy1
    have Hy32:=hid hy32;clear hc1 hdg hy1 hy32;go_wp2_with fail;refine(divWord_any va x y _ (Ha.out.drewN q) Hlt.out.2.1 Hlt.out.2.2.2 Hy32.out).mono ?_;rintro e w1 ⟨v1,rfl,hR1,hB1⟩;have HR1:=hid hR1;clear hR1;have hm:x % y < 4294967296:=Nat.lt_trans (Nat.mod_lt _ Hlt.out.2.2.2) Hy32.out;have Hm:=hid (rfl:x % y=x % y);generalize hmm:x % y=m at *;have Hmm:=hid hmm;clear hmm Hm;go_wp2_with fail;refine(FromUint_any m _ (by rw[W32_val];omega)).mono ?_;rintro e w2 ⟨v2,rfl,hR2,hB2⟩;go_wp2_with fail;rw[←Hmm.out] at hR2
    go_ret2
    exact⟨_,_,rfl,HR1.out.below hB2,hR2,(below_drewN (Br _ _) q).trans ((hB1.mono (Lr _)).trans (hB2.mono hB1.size))⟩
   ·have hn1':((nb:Int) == 1)=false:=by simp;omega
    have hyW:W32≤y:=by
     have h1:=Hlb.out.2 hnb0;have h2:=Nat.pow_le_pow_right W32_pos (show 1≤nb - 1 by omega);rw[Nat.pow_one] at h2;omega
    have HyW:=hid hyW;clear hyW hn1;go_wp2_with fail;refine(divLong_any va _ x y _ (Ha.out.drewN q) (Hb.out.drewN q) Hlt.out.1 hge HyW.out).mono ?_;rintro e w1 ⟨v1,v2,rfl,hR1,hR2,hB1⟩;go_wp2_with fail
    go_ret2
    exact⟨_,_,rfl,hR1,hR2,(below_drewN (Br _ _) q).trans (hB1.mono (Lr _))⟩
end Go.Proofs.YteblinkehldghaaGreatDoor
