/- The natural numbers of the specification (base 65536): rows that grow, trim, NatOf. -/
import Derived.Test.YteblinkehldghaaGreatDoorNatW
import Derived.Deep.AppendLies
import Derived.Test.YteblinkehldghaaGreatDoorFracX
import Derived.Deep.CutRange
set_option maxHeartbeats 8000000
set_option maxRecDepth 100000
namespace Go.Proofs.YteblinkehldghaaGreatDoor
open Go.RowKit Dg
open And renaming intro→Ai
open List renaming setIfInBounds_toArray→Sa,set_cons_zero→Sz,set_cons_succ→Sc
open Nat renaming le_refl→Lr
open Below renaming refl→Br
def B16:Nat:=65536
theorem B16_pos:0 < B16:=by decide
theorem B16_one:1 < B16:=by decide
theorem B16_val:B16=65536:=rfl
def Own (w:World) (base:Nat) (v:Value) (n:Nat) (f:Nat→Nat):Prop:=w.ownsRow base 65 1 v n ((List.range n).map (fun j=>Value.int .u32 (f j:Nat)))
theorem Own.nil(w:World)(base:Nat)(f:Nat→Nat):Own w base (.slice none 0 0) 0 f:=World.ownsRow_nil w base _ 1
theorem Own.slc{w:World}{base:Nat}{v:Value}{n}{f:Nat→Nat}(h:Own w base v n f):∃p cap,v=.slice p n cap∧n≤cap∧Slc w p n f:=by
 rcases h.2 with ⟨hv,h0⟩ | ⟨g,cap,cur,hv,hb,hg,hn,_,hsz,htk⟩
 ·subst h0;exact⟨none,0,hv,Lr _,Slc.zero⟩
 ·refine⟨_,cap,hv,hn,fun _=>⟨g,0,rfl,fun j hj=>?_⟩⟩;rw[Nat.zero_add,cell_of_row w g j cur _ _ hg]
  have h1:(cur.toList.take (n*1))[j]?=((List.range n).map (fun j=>Value.int .u32 (f j:Nat)))[j]?:=by rw[htk]
  rw[List.getElem?_take_of_lt (by omega),List.getElem?_map,List.getElem?_range hj] at h1;simpa using h1
theorem Own.push{w:World}{base:Nat}{v:Value}{n:Nat}{f:Nat→Nat}{z:Int}(h:w.ownsRow base 65 1 v (n+1) ((List.range n).map (fun j=>Value.int .u32 (f j:Nat)) ++ [.int .u32 z]))(hz:z=(f n:Nat)):Own w base v (n+1) f:=by
 unfold Own;rw[List.range_succ,List.map_append,List.map_singleton,←hz];exact h
theorem Own.congr{w:World}{base:Nat}{v:Value}{n:Nat}{f g:Nat→Nat}(h:Own w base v n f)(e:∀j,j < n→f j=g j):Own w base v n g:=by
 unfold Own;rw[show(List.range n).map (fun j=>Value.int .u32 (g j:Nat))=(List.range n).map (fun j=>Value.int .u32 (f j:Nat)) from List.map_congr_left fun j hj=>by rw[e j (List.mem_range.1 hj)]];exact h
theorem trim_any(p)(n cap x:Nat)(w:World)(hn:n≤4000000000000)(hnc:n≤cap)(hx:x < B16 ^ n)(hs:Slc w p n (dg B16 x)):
  Calls Tryz.prog 128 #[.slice p n cap] w fun e w'=>∃m,e=.returned (.slice p m cap)∧m≤n∧Len B16 x m∧w=w':=by
 go_enter Tryz.func128,Tryz.ntmps128
 go_wp2
 go_loop [3] (fun i=>∃m:Nat,m≤n∧i=.int .i64 m∧x < B16 ^ m) (fun i=>(intOf i).toNat)
 case atStart=>exact⟨n,Lr _,rfl,hx⟩
 case round=>
  obtain⟨m,hm,rfl,hxm⟩:=hrel
  rcases Nat.eq_zero_or_pos m with h0 | h0
  ·subst h0;have hl:Len B16 x 0:=⟨hxm,fun h=>absurd h (by omega)⟩;clear hs hx hxm
   go_wp2
   go_ret
   exact⟨0,rfl,Nat.zero_le _,hl,rfl⟩
  ·obtain⟨b,off,rfl,hc⟩:=hs (by omega);obtain⟨k,rfl⟩:∃k,m=k+1:=⟨m - 1,by omega⟩;have hck:=hc k (by omega)
   by_cases ht:dg B16 x k=0
   ·have hlt:x < B16 ^ k:=lt_of_top_zero B16_pos hxm ht;rw[ht] at hck;clear hs hx hxm hc ht
    have e1:((k+1:Nat):Int) - 1=k:=by omega
    go_wp2
    go_round
    case rel=>exact⟨k,by omega,by go_num,hlt⟩
    case measure=>simp [intOf]
   ·have hl:Len B16 x (k+1):=Len.of_top hxm ht
    have ht':((dg B16 x k:Nat):Int)≠0:=by omega
    clear hs hx hxm hc
    have e1:((k+1:Nat):Int) - 1=k:=by omega
    go_wp2
    go_ret
    exact⟨k+1,rfl,hm,hl,rfl⟩
def OfRel (w0:World) (x:Nat) (a v:Value) (wr:World):Prop:=
 ∃k n:Nat,a=.int .u64 n∧n=x / B16 ^ k∧k≤4∧(k=0∨B16 ^ (k - 1)≤x)∧Own wr w0.heap.size v k (dg B16 x)∧Bw w0 wr
theorem NatOf_any(x:Nat)(w:World)(hx:x < 18446744073709551616):
  Calls Tryz.prog 48 #[.int .u64 x] w fun e w'=>∃v,e=.returned v∧Rep B16 w' v x∧Bw w w':=by
 obtain⟨i0,hi,hz0,hz1,hz2⟩:=info_parts Tryz.infoU32;go_enter Tryz.func48,Tryz.ntmps48;go_wp2_with fail
 go_loopw [0,3] (fun a v wr=>OfRel w x a v wr) (fun a _ _=>(intOf a).toNat)
 case atStart=>exact⟨0,x,rfl,by simp,by omega,.inl rfl,Own.nil _ _ _,Br _ _⟩
 case round=>
  obtain⟨k,n,rfl,hnx,hk,hkx,hown,hB⟩:=hrel
  by_cases h0:n=0
  ·subst h0
   have hlt:x < B16 ^ k:=by
    have h1:=hnx.symm
    rcases(Nat.div_eq_zero_iff).1 h1 with h | h
    ·exact absurd h (Nat.pos_iff_ne_zero.1 (Nat.pow_pos B16_pos))
    ·exact h
   obtain⟨p,cap,rfl,hkc,hsl⟩:=hown.slc;have HF:=hid (Ai (show Rep B16 wr (.slice p k cap) x from⟨p,k,cap,rfl,hkc,⟨hlt,fun h=>(hkx.resolve_left (by omega))⟩,hsl⟩) hB);clear hnx hkx hown hB hlt hsl;go_wp2_with fail
   go_ret
   exact⟨_,rfl,HF.out.1,HF.out.2⟩
  ·have hk4:k < 4:=by
    rcases Nat.lt_or_ge k 4 with h | h
    ·exact h
    ·have h1:k=4:=by omega
     subst h1;rw[show B16 ^ 4=18446744073709551616 by decide] at hnx;omega
   have hle:B16 ^ k≤x:=by
    rcases Nat.lt_or_ge x (B16 ^ k) with h | h
    ·rw[Nat.div_eq_of_lt h] at hnx;exact absurd hnx h0
    ·exact h
   have hd:n % 65536=dg B16 x k:=by rw[hnx];rfl
   have hn':n / 65536=x / B16 ^ (k+1):=by rw[hnx,Nat.div_div_eq_div_mul,Nat.pow_succ];rfl
   have hn64:n < 18446744073709551616:=by rw[hnx];exact Nat.lt_of_le_of_lt (Nat.div_le_self _ _) hx
   have hsize:=hB.size
   have hlt:=fun q hq=>(World.ownsRow.lt hown q hq).1
   have hal:=(show wr.ownsRow w.heap.size 65 1 u3 k ((List.range k).map (fun j=>Value.int .u32 (dg B16 x j:Nat))) from hown).alloc (.cells #[.int .u32 ((n:Int) % 65536)] 65);have HX:=hid (Ai hd (Ai hn' (Ai hle hlt)));have HA:=hid (Ai hal hB);clear hal hown hnx hkx hd hn' hle hx hB hlt
   go_wp2_with (first
    | (at_builtin;refine wpList_append_own _ rfl _ _ 38 rfl w.heap.size 65 i0 (.int .u32 0) 1 4 Tryz.underlying38 hi hz0 hz1 hz2 rfl (by decide) _ _ _ rfl HA.out.1 ⟨wr.heap.size,0,none⟩ 1 1 [.int .u32 ((n:Int) % 65536)] rfl rfl (cell_one_new _ _ _) (fun x hx=>by simp at hx;subst hx;rfl) (by unfold maxLen;omega) (by omega) (by simp;omega) ?_;intro v' w3 hown' hgrow3 hnil3))
   refine⟨⟨k+1,n / 65536,by simp,HX.out.2.1,by omega,.inr HX.out.2.2.1,Own.push hown' (by rw[←HX.out.1];simp),?_⟩,by simp only[intOf];omega⟩;exact(HA.out.2.alloc hsize _).grown (show(wr.alloc _).grownBy w3 u3.ownBlock from hgrow3) (by rw[World.size_alloc];omega) HX.out.2.2.2
theorem dg_16(x j:Nat):dg B16 x j < 65536:=dg_lt B16_pos
theorem mul_lt16{x y a b:Nat}(hx:x < B16 ^ a)(hy:y < B16 ^ b):x*y < B16 ^ (a+b):=by
 rw[Nat.pow_add]
 rcases Nat.eq_zero_or_pos y with h | h
 ·subst h;exact Nat.mul_pos (Nat.pow_pos B16_pos) (Nat.pow_pos B16_pos)
 ·exact Nat.lt_of_lt_of_le (Nat.mul_lt_mul_of_pos_right hx h) (Nat.mul_le_mul_left _ (Nat.le_of_lt hy))
theorem Tryz.mkN(N:Nat)(hN:N≤2000000000):∀w:World,(Instr.makeSlice 38 (.int .i64 (N:Int)) (.int .i64 (N:Int))).run Tryz.prog w=.ok (.slice (some ⟨w.heap.size,0,none⟩) N N) (w.alloc (.cells (madeCells #[.int .u32 0] N) 65)):=fun w=>
  run_make_row' (P:=Tryz.prog) 38 65 (.int .u32 0) 4 Tryz.underlying38 Tryz.infoU32 rfl .i64 .i64 N (by omega) (by omega) w
theorem NatMul_any(va vb:Value)(x y:Nat)(w:World)(ha:Rep B16 w va x)(hb:Rep B16 w vb y)(hx:x < B16 ^ 1000000000)(hy:y < B16 ^ 1000000000):
  Calls Tryz.prog 104 #[va,vb] w fun e w'=>∃v,e=.returned v∧Rep B16 w' v (x*y)∧Bw w w':=by
 obtain⟨pa,na,ca,rfl,hca,hla,hsa⟩:=ha;obtain⟨pb,nb,cb,rfl,hcb,hlb,hsb⟩:=hb;have hna:=hla.le B16_pos hx;have hnb:=hlb.le B16_pos hy;have hza:=hla.zero_iff B16_pos;have hzb:=hlb.zero_iff B16_pos;clear hx hy
 by_cases h0:na=0∨nb=0
 ·have hxy:x*y=0:=by rcases h0 with h | h;(rw[hza.2 h,Nat.zero_mul]);(rw[hzb.2 h,Nat.mul_zero])
  rw[hxy];clear hxy hza hzb hla hlb hsa hsb
  rcases h0 with h | h
  ·subst h;go_enter Tryz.func104,Tryz.ntmps104;go_wp2_with fail
   go_ret
   exact⟨_,rfl,Rep.nil,Br _ _⟩
  ·subst h
   by_cases ha0:na=0
   ·subst ha0;go_enter Tryz.func104,Tryz.ntmps104;go_wp2_with fail
    go_ret
    exact⟨_,rfl,Rep.nil,Br _ _⟩
   ·have hf:((na:Int) == 0)=false:=by simpa using ha0
    go_enter Tryz.func104,Tryz.ntmps104;go_wp2_with fail
    go_ret
    exact⟨_,rfl,Rep.nil,Br _ _⟩
 ·have hfa:((na:Int) == 0)=false:=by simp;omega
  have hfb:((nb:Int) == 0)=false:=by simp;omega
  have hmk:=Tryz.mkN (na+nb) (by omega);simp only[Int.natCast_add] at hmk;clear hza hzb;go_enter Tryz.func104,Tryz.ntmps104;go_wp2_with fail;clear hmk
  go_loopw [28] (fun i wr=>∃k X:Nat,k≤na∧i=.int .i64 k∧X=(x % B16 ^ k)*y∧Mk B16 w wr (na+nb) X) (fun i _=>na - (intOf i).toNat)
  case atStart=>exact⟨0,0,by omega,rfl,by simp [Nat.mod_one],Mk.start _ _ _⟩
  case round=>
   obtain⟨k,X,hk,rfl,hX,hM⟩:=hrel
   by_cases hlt:k < na
   ·have hsa':=hsa.below hM.bel;obtain⟨b0,o0,rfl,hca0⟩:=hsa' (by omega);have hca1:=hca0 k hlt;have hda:=dg_16 x k
    have hXs:(x % B16 ^ (k+1))*y=X+B16 ^ k*(dg B16 x k*y):=by rw[mod_succ,hX,Nat.add_mul,Nat.mul_assoc]
    have HXs:Hid ((x % B16 ^ (k+1))*y=X+B16 ^ k*(dg B16 x k*y)):=hXs
    have hXlt:X < B16 ^ (k+nb):=by rw[hX];exact mul_lt16 (Nat.mod_lt _ (Nat.pow_pos B16_pos)) hlb.1
    have HXlt:Hid (X < B16 ^ (k+nb)):=hXlt;clear hX hXs hXlt hca0 hsa;generalize dg B16 x k=d at *;go_wp2_with fail;clear hca1
    go_loopw [8,35] (fun c i wi=>∃j Z cc:Nat,j≤nb∧i=.int .i64 j∧c=.int .u64 cc∧cc < 65536∧Z+B16 ^ (k+j)*cc=X+B16 ^ k*(d*(y % B16 ^ j))∧(∀t,k+j≤t→dg B16 Z t=dg B16 X t)∧Mk B16 w wi (na+nb) Z) (fun _ i _=>nb - (intOf i).toNat)
    case atStart=>exact⟨0,X,0,by omega,rfl,rfl,by omega,by simp [Nat.mod_one],fun _ _=>rfl,hM⟩
    case round=>
     obtain⟨j,Z,c,hj,rfl,rfl,hc,hZ,hZt,hN⟩:=hrel;have HZ:Hid (Z+B16 ^ (k+j)*c=X+B16 ^ k*(d*(y % B16 ^ j))):=hZ;have HZt:Hid (∀t,k+j≤t→dg B16 Z t=dg B16 X t):=hZt;clear hZ hZt hM
     by_cases hjl:j < nb
     ·have hsb':=hsb.below hN.bel;obtain⟨b1,o1,rfl,hcb0⟩:=hsb' (by omega);have hcb1:=hcb0 j hjl;have hv:=dg_16 y j;have hp:=dg_16 Z (k+j);have hcell:=hN.cell (show k+j < na+nb by omega);have hfrz:=hN.row.frozen (k+j)
      have HR:Hid (∀s c',s+B16*c'=c+d*dg B16 y j+dg B16 Z (k+j)→setd B16 Z (k+j) s+B16 ^ (k+(j+1))*c'=X+B16 ^ k*(d*(y % B16 ^ (j+1)))):=fun s c' h=>mul_round HZ.out h
      clear hcb0 hsb;generalize dg B16 y j=v at *;generalize dg B16 Z (k+j)=p at *;have hdv0:(d*v:Nat)≤65535*65535:=Nat.mul_le_mul (by omega) (by omega)
      have hdv:(d:Int)*(v:Int)≤4294836225:=by
                                                          have:((d*v:Nat):Int)≤4294836225:=by omega
                                                          rwa [Int.natCast_mul] at this
      have hdv1:0≤(d:Int)*(v:Int):=Int.mul_nonneg (by omega) (by omega);go_wp2_with fail
      go_roundw
      case rel=>
       have hcast:(d:Int)*(v:Int)=((d*v:Nat):Int):=(Int.natCast_mul d v).symm;have hs:(c+d*v+p) % 65536 < B16:=Nat.mod_lt _ (by decide);refine⟨j+1,setd B16 Z (k+j) ((c+d*v+p) % 65536),(c+d*v+p) / 65536,by omega,by go_num,congrArg (Value.int .u64) (by rw[hcast];omega),by omega,HR.out _ _ (by rw[B16_val];omega),fun t ht=>?_,?_⟩
       ·rw[dg_setd B16_pos hs,if_neg (by omega)];exact HZt.out t (by omega)
       ·have:=hN.set B16_pos (k+j) _ hs;rw[show(((c+d*v+p) % 65536:Nat):Int)=((p:Int)+(d:Int)*v+c) % 65536 by rw[hcast];omega] at this;exact this
      case measure=>simp [intOf];omega
     ·have hj':j=nb:=by omega
      subst hj';have hfrz:=hN.row.frozen (k+j);have hcell:=hN.cell (show k+j < na+j by omega)
      have h0':dg B16 Z (k+j)=0:=by rw[HZt.out _ (Lr _)];exact dg_zero HXlt.out
      have hZe:setd B16 Z (k+j) c=(x % B16 ^ (k+1))*y:=by
       have h1:=setd_val B16 Z (k+j) c;rw[h0',Nat.mul_zero,Nat.add_zero,HZ.out,Nat.mod_eq_of_lt hlb.1] at h1;rw[h1,HXs.out]
      have HZe:Hid (setd B16 Z (k+j) c=(x % B16 ^ (k+1))*y):=hZe;clear h0' hZe;go_wp2_with fail
      go_roundw
      case rel=>exact⟨k+1,setd B16 Z (k+j) c,by omega,by go_num,HZe.out,hN.set B16_pos (k+j) c hc⟩
      case measure=>simp [intOf];omega
   ·have hk':k=na:=by omega
    subst hk';rw[Nat.mod_eq_of_lt hla.1] at hX
    have hXl:X < B16 ^ (k+nb):=by rw[hX];exact mul_lt16 hla.1 hlb.1
    have hsl:=hM.slc;have hbel:=hM.bel;have HX:Hid (X=x*y):=hX;clear hM hX hsa hsb;go_wp2_with fail;refine(trim_any _ _ _ X _ (by omega) (Lr _) hXl hsl).mono ?_;rintro e w' ⟨m,rfl,hm,hlen,rfl⟩;go_wp2_with fail
    go_ret
    rw[←HX.out];exact⟨_,rfl,⟨_,_,_,rfl,hm,hlen,hsl.take (by omega)⟩,hbel⟩
theorem cmp3_len16{x y m n:Nat}(hx:Len B16 x m)(hy:Len B16 y n)(h:m≠n):cmp3 m n=cmp3 x y:=by
 rcases Nat.lt_or_ge m n with hl | hl
 ·rw[cmp3_lt hl,cmp3_lt (hx.lt_of_lt B16_pos hy hl)]
 ·have hl':n < m:=by omega
  rw[cmp3_gt hl',cmp3_gt (hy.lt_of_lt B16_pos hx hl')]
theorem cmp3_dg16{x y k:Nat}(h:x / B16 ^ (k+1)=y / B16 ^ (k+1))(hd:dg B16 x k≠dg B16 y k):cmp3 (dg B16 x k) (dg B16 y k)=cmp3 x y:=by
 rcases Nat.lt_or_ge (dg B16 x k) (dg B16 y k) with hl | hl
 ·rw[cmp3_lt hl,cmp3_lt (lt_of_dg_lt h hl)]
 ·have hl':dg B16 y k < dg B16 x k:=by omega
  rw[cmp3_gt hl',cmp3_gt (lt_of_dg_lt h.symm hl')]
theorem NatCmp_any(va vb:Value)(x y:Nat)(w:World)(ha:Rep B16 w va x)(hb:Rep B16 w vb y)(hx:x < B16 ^ 1000000000)(hy:y < B16 ^ 1000000000):
  Calls Tryz.prog 124 #[va,vb] w fun e w'=>e=.returned (.int .i64 (cmp3 x y))∧∃q,w'=w.drewN q:=by
 obtain⟨pa,na,ca,rfl,hca,hla,hsa⟩:=ha;obtain⟨pb,nb,cb,rfl,hcb,hlb,hsb⟩:=hb;have hna:=hla.le B16_pos hx;have hnb:=hlb.le B16_pos hy;clear hx hy
 by_cases hn:na=nb
 ·subst hn
  have hne:((na:Int) != (na:Int))=false:=by simp
  go_enter Tryz.func124,Tryz.ntmps124;go_wp2_with fail
  go_loopw [5] (fun i wr=>∃k q:Nat,k≤na∧i=.int .i64 ((k:Int) - 1)∧x / B16 ^ k=y / B16 ^ k∧wr=w.drewN q) (fun i _=>(intOf i+1).toNat)
  case atStart=>exact⟨na,0,by omega,rfl,by rw[Nat.div_eq_of_lt hla.1,Nat.div_eq_of_lt hlb.1],rfl⟩
  case round=>
   obtain⟨k,q,hk,rfl,he,rfl⟩:=hrel;have HE:Hid (x / B16 ^ k=y / B16 ^ k):=he;clear he
   rcases Nat.eq_zero_or_pos k with h0 | h0
   ·subst h0
    have hxy:x=y:=by simpa using HE.out
    subst hxy;clear hsa hsb HE;go_wp2_with fail
    go_ret
    exact⟨ret_i64 (cmp3_eq x).symm,q,rfl⟩
   ·obtain⟨t,rfl⟩:∃t,k=t+1:=⟨k - 1,by omega⟩;obtain⟨b1,o1,rfl,hc1⟩:=hsa (by omega);obtain⟨b2,o2,rfl,hc2⟩:=hsb (by omega);have hk1:=hc1 t (by omega);have hk2:=hc2 t (by omega)
    have e1:((t+1:Nat):Int) - 1=t:=by omega
    rw[e1];clear e1
    have HD:Hid (dg B16 x t≠dg B16 y t→cmp3 (dg B16 x t) (dg B16 y t)=cmp3 x y):=fun h=>cmp3_dg16 HE.out h
    have HQ:Hid (dg B16 x t=dg B16 y t→x / B16 ^ t=y / B16 ^ t):=fun h=>by
     have:=HE.out;show x / B16 ^ t=y / B16 ^ t;rw[div_succ,div_succ B16 y,h,this]
    clear hc1 hc2 hsa hsb HE;generalize dg B16 x t=d1 at *;generalize dg B16 y t=d2 at *
    rcases Nat.lt_trichotomy d1 d2 with hd | hd | hd
    ·have HC:Hid (cmp3 x y=-1):=hid (by rw[←HD.out (by omega)];exact cmp3_lt hd);go_wp2_with fail
     go_quiet (fail)
     go_wp2_with fail
     go_ret
     exact⟨by rw[HC.out];rfl,_,by rw[World.drewN_drewN]⟩
    ·subst hd;go_wp2_with fail
     go_quiet (fail)
     go_wp2_with fail
     go_quiet (fail)
     go_wp2_with fail
     go_roundw
     case rel=>exact⟨t,_,by omega,rfl,HQ.out (by first | rfl | trivial),by first | rfl | rw[World.drewN_drewN,World.drewN_drewN]⟩
     case measure=>simp [intOf]
    ·have HC:Hid (cmp3 x y=1):=hid (by rw[←HD.out (by omega)];exact cmp3_gt hd);go_wp2_with fail
     go_quiet (fail)
     go_wp2_with fail
     go_quiet (fail)
     go_wp2_with fail
     go_ret
     exact⟨by rw[HC.out];rfl,_,by first | rfl | rw[World.drewN_drewN,World.drewN_drewN]⟩
 ·rw[←cmp3_len16 hla hlb hn]
  have hne:((na:Int) != (nb:Int))=true:=by simp;omega
  clear hla hlb hsa hsb
  rcases Nat.lt_or_ge na nb with hl | hl
  ·rw[cmp3_lt hl];go_enter Tryz.func124,Tryz.ntmps124;go_wp2_with fail
   go_ret
   exact⟨rfl,0,rfl⟩
  ·rw[cmp3_gt (by omega:nb < na)];go_enter Tryz.func124,Tryz.ntmps124;go_wp2_with fail
   go_ret
   exact⟨rfl,0,rfl⟩
theorem pow_two_k(k:Nat):W32 ^ k=B16 ^ (2*k):=by rw[Nat.pow_mul];rfl
theorem dg_lo(x k:Nat):dg B16 x (2*k)=dg W32 x k % 65536:=by
 unfold dg;rw[←pow_two_k,show W32=65536*65536 from rfl,show B16=65536 from rfl,Nat.mod_mul_left_mod]
theorem dg_hi(x k:Nat):dg B16 x (2*k+1)=dg W32 x k / 65536:=by
 unfold dg;rw[Nat.pow_succ,←pow_two_k,←Nat.div_div_eq_div_mul,show W32=65536*65536 from rfl,show B16=65536 from rfl,Nat.mod_mul_right_div_self]
theorem dg_word(x k:Nat):dg W32 x k=dg B16 x (2*k)+dg B16 x (2*k+1)*65536:=by
 rw[dg_lo,dg_hi];omega
theorem Own.push2{w:World}{base:Nat}{v:Value}{n:Nat}{f:Nat→Nat}{z y:Int}(h:w.ownsRow base 65 1 v (n+2) ((List.range n).map (fun j=>Value.int .u32 (f j:Nat)) ++ [.int .u32 z,.int .u32 y]))(hz:z=(f n:Nat))(hy:y=(f (n+1):Nat)):Own w base v (n+2) f:=by
 unfold Own;rw[List.range_succ,List.range_succ,List.map_append,List.map_append,List.map_singleton,List.map_singleton,List.append_assoc,←hz,←hy];exact h
def WRel (w0:World) (x n:Nat) (v i:Value) (wr:World):Prop:=∃k:Nat,i=.int .i64 k∧k≤n∧Own wr w0.heap.size v (2*k) (dg B16 x)∧Bw w0 wr
theorem words16_any(p)(n cap x:Nat)(w:World)(hn:n≤1000000000000)(_hnc:n≤cap)(hx:x < W32 ^ n)(hs:Slc w p n (dg W32 x)):
  Calls Tryz.prog 136 #[.slice p n cap] w fun e w'=>∃v,e=.returned v∧Rep B16 w' v x∧Bw w w':=by
 obtain⟨i0,hi,hz0,hz1,hz2⟩:=info_parts Tryz.infoU32;have Hx:=hid (Ai hx hs);clear hx hs;go_enter Tryz.func136,Tryz.ntmps136;go_wp2_with fail
 go_loopw [3,8] (fun v i wr=>WRel w x n v i wr) (fun _ i _=>n - (intOf i).toNat)
 case atStart=>exact⟨0,rfl,by omega,Own.nil _ _ _,Br _ _⟩
 case round=>
  obtain⟨k,rfl,hk,hown,hB⟩:=hrel
  by_cases hlt:k < n
  ·have hsl:=Hx.out.2.below hB;obtain⟨b0,o0,rfl,hc0⟩:=hsl (by omega);have hc1:=hc0 k hlt;have hd:=dg_u32 x k;have hlo:=dg_lo x k;have hhi:=dg_hi x k;generalize dg W32 x k=d at *;have hsize:=hB.size
   have hown1:=fun q hq=>(World.ownsRow.lt hown q hq).1
   have hal:=(show wr.ownsRow w.heap.size 65 1 u3 (2*k) ((List.range (2*k)).map (fun j=>Value.int .u32 (dg B16 x j:Nat))) from hown).alloc (.cells #[.int .u32 ((d:Int) % 65536),.int .u32 ((d:Int) / 65536)] 65);have HA:=hid (Ai hal (Ai hB (Ai hown1 (Ai hlo hhi))));have Hbl:=hid (World.news_of_block (heap_alloc_new wr (.cells #[.int .u32 ((d:Int) % 65536),.int .u32 ((d:Int) / 65536)] 65)));clear hal hown hB hown1 hlo hhi hsl hc0
   go_wp2_with (first
    | (at_builtin;refine wpList_append_own _ rfl _ _ 38 rfl w.heap.size 65 i0 (.int .u32 0) 1 4 Tryz.underlying38 hi hz0 hz1 hz2 rfl (by decide) _ _ _ rfl HA.out.1 ⟨wr.heap.size,0,none⟩ 2 2 [.int .u32 ((d:Int) % 65536),.int .u32 ((d:Int) / 65536)] rfl rfl Hbl.out (fun x hx=>by simp at hx;rcases hx with rfl | rfl<;>rfl) (by unfold maxLen;omega) (by omega) (by simp;omega) ?_;intro v' w3 hown' hgrow3 hnil3))
   go_roundw
   case rel=>
    have hp:Own w3 w.heap.size v' (2*k+2) (dg B16 x):=Own.push2 (n:=2*k) hown' (by rw[HA.out.2.2.2.1];simp) (by rw[HA.out.2.2.2.2];simp);refine⟨k+1,by go_num,by omega,hp,?_⟩;exact(HA.out.2.1.alloc hsize _).grown (show(wr.alloc _).grownBy w3 u3.ownBlock from hgrow3) (by rw[World.size_alloc];omega) HA.out.2.2.1
   case measure=>simp [intOf];omega
  ·have hk':k=n:=by omega
   subst hk';obtain⟨p',cap',rfl,hkc,hsl⟩:=hown.slc;have HF:=hid (Ai hsl hB)
   have hx':x < B16 ^ (2*k):=by rw[←pow_two_k];exact Hx.out.1
   have htr:=hid (trim_any p' (2*k) cap' x wr (by omega) hkc hx' hsl);clear hown hsl hB hx';go_wp2_with fail;refine htr.out.mono ?_;rintro e w' ⟨m,rfl,hm,hlen,rfl⟩;go_wp2_with fail
   go_ret
   exact⟨_,rfl,⟨_,_,_,rfl,by omega,hlen,HF.out.1.take hm⟩,HF.out.2⟩
def LRel (w0:World) (x n:Nat) (v i:Value) (wr:World):Prop:=∃k:Nat,i=.int .i64 (2*k:Nat)∧2*k≤n+1∧Own wr w0.heap.size v k (dg W32 x)∧Bw w0 wr
theorem list_len{x n k:Nat}(h:Len B16 x n)(h1:n≤2*k)(h2:2*k≤n+1):Len W32 x k:=by
 constructor
 ·rw[pow_two_k];exact Nat.lt_of_lt_of_le h.1 (Nat.pow_le_pow_right B16_pos h1)
 ·intro hk;rw[pow_two_k];exact Nat.le_trans (Nat.pow_le_pow_right B16_pos (show 2*(k - 1)≤n - 1 by omega)) (h.2 (by omega))
theorem list_any(va:Value)(x:Nat)(w:World)(ha:Rep B16 w va x)(hx:x < B16 ^ 1000000000):
  Calls Tryz.prog 45 #[va] w fun e w'=>∃v,e=.returned v∧Rep W32 w' v x∧Bw w w':=by
 obtain⟨i0,hi,hz0,hz1,hz2⟩:=info_parts Tryz.infoU32;obtain⟨p,n,cap,rfl,hnc,hl,hs⟩:=ha;have hn:=hl.le B16_pos hx;have Hx:=hid (Ai hl hs);clear hx hs hl;go_enter Tryz.func45,Tryz.ntmps45;go_wp2_with fail
 go_loopw [3,4] (fun v i wr=>LRel w x n v i wr) (fun _ i _=>n+1 - (intOf i).toNat)
 case atStart=>exact⟨0,rfl,by omega,Own.nil _ _ _,Br _ _⟩
 case round=>
  obtain⟨k,rfl,hk,hown,hB⟩:=hrel;have hsize:=hB.size
  by_cases hlt:2*k < n
  ·have hsl:=Hx.out.2.below hB;obtain⟨b0,o0,rfl,hc0⟩:=hsl (by omega);have hc1:=hc0 (2*k) hlt;have hd:=dg_16 x (2*k);have he:=dg_16 x (2*k+1);have hw:=dg_word x k
   have hown1:=fun q hq=>(World.ownsRow.lt hown q hq).1
   by_cases hlt2:2*k+1 < n
   ·have hc2:=hc0 (2*k+1) hlt2;generalize dg B16 x (2*k)=d at *;generalize dg B16 x (2*k+1)=f at *;have hal:=(show wr.ownsRow w.heap.size 65 1 u3 k ((List.range k).map (fun j=>Value.int .u32 (dg W32 x j:Nat))) from hown).alloc (.cells #[.int .u32 ((d:Int)+(f:Int)*65536)] 65);have HA:=hid (Ai hal (Ai hB (Ai hown1 hw)));clear hal hown hB hown1 hw hsl hc0
    go_wp2_with (first
     | (at_builtin;refine wpList_append_own _ rfl _ _ 22 rfl w.heap.size 65 i0 (.int .u32 0) 1 4 Tryz.underlying22 hi hz0 hz1 hz2 rfl (by decide) _ _ _ rfl HA.out.1 ⟨wr.heap.size,0,none⟩ 1 1 [.int .u32 ((d:Int)+(f:Int)*65536)] rfl rfl (cell_one_new _ _ _) (fun x hx=>by simp at hx;subst hx;rfl) (by unfold maxLen;omega) (by omega) (by simp;omega) ?_;intro v' w3 hown' hgrow3 hnil3))
    have hp:Own w3 w.heap.size v' (k+1) (dg W32 x):=Own.push (n:=k) hown' (by rw[HA.out.2.2.2];simp);refine⟨⟨k+1,congrArg (Value.int .i64) (by omega),by omega,hp,?_⟩,by simp only[intOf];omega⟩;exact(HA.out.2.1.alloc hsize _).grown (show(wr.alloc _).grownBy w3 u3.ownBlock from hgrow3) (by rw[World.size_alloc];omega) HA.out.2.2.1
   ·have h0:dg B16 x (2*k+1)=0:=dg_zero' B16_pos Hx.out.1.1 (by omega);rw[h0,Nat.zero_mul,Nat.add_zero] at hw;clear h0 he;generalize dg B16 x (2*k)=d at *;have hal:=(show wr.ownsRow w.heap.size 65 1 u3 k ((List.range k).map (fun j=>Value.int .u32 (dg W32 x j:Nat))) from hown).alloc (.cells #[.int .u32 (d:Int)] 65);have HA:=hid (Ai hal (Ai hB (Ai hown1 hw)));clear hal hown hB hown1 hw hsl hc0
    go_wp2_with (first
     | (at_builtin;refine wpList_append_own _ rfl _ _ 22 rfl w.heap.size 65 i0 (.int .u32 0) 1 4 Tryz.underlying22 hi hz0 hz1 hz2 rfl (by decide) _ _ _ rfl HA.out.1 ⟨wr.heap.size,0,none⟩ 1 1 [.int .u32 (d:Int)] rfl rfl (cell_one_new _ _ _) (fun x hx=>by simp at hx;subst hx;rfl) (by unfold maxLen;omega) (by omega) (by simp;omega) ?_;intro v' w3 hown' hgrow3 hnil3))
    have hp:Own w3 w.heap.size v' (k+1) (dg W32 x):=Own.push (n:=k) hown' (by rw[HA.out.2.2.2]);refine⟨⟨k+1,congrArg (Value.int .i64) (by omega),by omega,hp,?_⟩,by simp only[intOf];omega⟩;exact(HA.out.2.1.alloc hsize _).grown (show(wr.alloc _).grownBy w3 u3.ownBlock from hgrow3) (by rw[World.size_alloc];omega) HA.out.2.2.1
  ·obtain⟨p',cap',rfl,hkc,hsl⟩:=hown.slc;have HF:=hid (Ai (show Rep W32 wr (.slice p' k cap') x from⟨p',k,cap',rfl,hkc,list_len Hx.out.1 (by omega) hk,hsl⟩) hB);clear hown hsl hB;go_wp2_with fail
   go_ret
   exact⟨_,rfl,HF.out.1,HF.out.2⟩
def QRep (w:World) (v:Value) (s:Bool) (n d:Nat):Prop:=∃vn vd,v=.agg #[.bool s,vn,vd]∧Rep B16 w vn n∧Rep B16 w vd d
theorem QRep.below{w w':World}{v:Value}{s:Bool}{n d:Nat}(h:QRep w v s n d)(hb:Bw w w'):QRep w' v s n d:=by
 obtain⟨vn,vd,hv,h1,h2⟩:=h;exact⟨vn,vd,hv,h1.below hb,h2.below hb⟩
theorem one_of_len16{x n:Nat}(h:Len B16 x n):x=1↔n=1∧dg B16 x 0=1:=by
 constructor
 ·rintro rfl;have h1:Len B16 1 1:=⟨by decide,fun _=>by decide⟩;exact⟨h.unique B16_one h1,by decide⟩
 ·rintro⟨rfl,h0⟩;have:=h.1;simp only[dg,Nat.pow_zero,Nat.div_one,Nat.pow_one] at h0 this
  rwa [Nat.mod_eq_of_lt this] at h0
theorem whole_any(v:Value)(s:Bool)(n d:Nat)(w:World)(h:QRep w v s n d):
  Calls Tryz.prog 46 #[v] w fun e w'=>e=.returned (.bool (decide (d≤1)))∧Bw w w':=by
 obtain⟨vn,vd,rfl,⟨p1,k1,c1,rfl,_⟩,⟨p2,k2,c2,rfl,_,hl,hs⟩⟩:=h;have ho:=one_of_len16 hl;have hz:=hl.zero_iff B16_pos
 by_cases h0:k2=0
 ·subst h0;have hd:decide (d≤1)=true:=decide_eq_true (by have:=hz.2 rfl;omega);rw[hd];clear hl hs ho hz hd;go_enter Tryz.func46,Tryz.ntmps46;go_wp2_with fail
  go_ret
  exact⟨rfl,(Br _ _).alloc (Lr _) _⟩
 ·have hf0:((k2:Int) == 0)=false:=by simpa using h0
  by_cases h1:k2=1
  ·subst h1;obtain⟨b,o,rfl,hc⟩:=hs (by omega);have hc0:=hc 0 (by omega);rw[Nat.add_zero] at hc0;have hb:b < w.heap.size:=World.block_lt_of_cell? _ _ hc0
   have hc1:(w.alloc (.cells #[.bool s,.slice p1 k1 c1,.slice (some ⟨b,o,none⟩) 1 c2] 40)).cell? ⟨b,o,none⟩=some (.int .u32 (dg B16 d 0:Nat)):=by rw[World.cell?_alloc_lt _ _ _ hb];exact hc0
   by_cases hd1:dg B16 d 0=1
   ·have hd:decide (d≤1)=true:=decide_eq_true (by have:=ho.2 ⟨rfl,hd1⟩;omega);rw[hd];rw[hd1] at hc1;clear hl hs ho hz hd hd1 hc hc0;go_enter Tryz.func46,Tryz.ntmps46;go_wp2_with fail
    go_ret
    exact⟨rfl,(Br _ _).alloc (Lr _) _⟩
   ·have hd:decide (d≤1)=false:=decide_eq_false (fun hh=>by
     rcases(show d=0∨d=1 by omega) with h | h
     ·exact h0 (hz.1 h)
     ·exact hd1 (ho.1 h).2)
    rw[hd]
    have hdf:(((dg B16 d 0:Nat):Int) == 1)=false:=by simp;omega
    clear hl hs ho hz hd hc hc0;generalize dg B16 d 0=dd at *;go_enter Tryz.func46,Tryz.ntmps46;go_wp2_with fail
    go_ret
    exact⟨rfl,(Br _ _).alloc (Lr _) _⟩
  ·have hf1:((k2:Int) == 1)=false:=by simp;omega
   have hd:decide (d≤1)=false:=decide_eq_false (fun hh=>by
    rcases(show d=0∨d=1 by omega) with h | h
    ·exact h0 (hz.1 h)
    ·exact h1 (ho.1 h).1)
   rw[hd];clear hl hs ho hz hd;go_enter Tryz.func46,Tryz.ntmps46;go_wp2_with fail
   go_ret
   exact⟨rfl,(Br _ _).alloc (Lr _) _⟩
theorem den_any(v:Value)(s:Bool)(n d:Nat)(w:World)(h:QRep w v s n d):
  Calls Tryz.prog 105 #[v] w fun e w'=>∃v',e=.returned v'∧Rep B16 w' v' (den1 d)∧Bw w w':=by
 obtain⟨vn,vd,rfl,⟨p1,k1,c1,rfl,_⟩,hd⟩:=h;have hd':=hid hd;obtain⟨p2,k2,c2,rfl,_,hl,_⟩:=hd;have hz:=hl.zero_iff B16_pos
 by_cases h0:k2=0
 ·subst h0;have H0:=hid (hz.2 rfl);clear hl hz;go_enter Tryz.func105,Tryz.ntmps105;go_wp2_with fail;refine(NatOf_any 1 _ (by decide)).mono ?_;rintro e w1 ⟨v1,rfl,hR1,hB1⟩;go_wp2_with fail
  go_ret
  refine⟨_,rfl,?_,((Br _ _).alloc (Lr _) _).trans (hB1.mono (by rw[World.size_alloc];omega))⟩;rw[H0.out];exact hR1
 ·have hf0:((k2:Int) == 0)=false:=by simpa using h0
  have H0:=hid (fun h=>h0 (hz.1 h));clear hl hz h0;go_enter Tryz.func105,Tryz.ntmps105;go_wp2_with fail
  go_ret
  refine⟨_,rfl,?_,(Br _ _).alloc (Lr _) _⟩;rw[show den1 d=d from if_neg H0.out];exact hd'.out.alloc _
def QNorm (w:World) (v:Value) (t:Tq):Prop:=QRep w v t.1 t.2.1 t.2.2
theorem QNorm.below{w w':World}{v:Value}{t:Tq}(h:QNorm w v t)(hb:Bw w w'):QNorm w' v t:=QRep.below h hb
def mkq (s:Bool) (n d:Nat):Tq:=if n=0∨d=0 then (false,0,1) else frac s n d
theorem mkq_one{s:Bool}{n:Nat}(h:n≠0):mkq s n 1=(s,n,1):=by
 unfold mkq frac;rw[if_neg (by omega),Nat.gcd_one_right];simp [h]
theorem slc_news{w:World}{b o k:Nat}{f:Nat→Nat}(h:Slc w (some ⟨b,o,none⟩) k f):∀j u,((List.range k).map (fun j=>Value.int .u32 (f j:Nat)))[j]?=some u→w.cell? ((⟨b,o,none⟩:Addr).add j)=some u:=fun j u hu=>by
 have hadd:(⟨b,o,none⟩:Addr).add j=⟨b,o+j,none⟩:=by unfold Addr.add;split<;>simp_all
 have hj:j < k:=by
  have:=(List.getElem?_eq_some_iff.1 hu).1;simpa using this
 rw[List.getElem?_map,List.getElem?_range hj] at hu;obtain⟨b',o',hp,hc⟩:=h (by omega);simp at hp;obtain⟨rfl,rfl⟩:=hp;rw[hadd,hc j hj,←hu];rfl
theorem own_empty(w:World)(base:Nat)(hb:base≤w.heap.size):(w.alloc (.cells #[] 65)).ownsRow base 65 1 (.slice (some ⟨w.heap.size,0,none⟩) 0 0) 0 []:=
 ⟨rfl,.inr ⟨w.heap.size,0,#[],rfl,hb,heap_alloc_new w _,Lr _,by unfold maxLen;omega,rfl,rfl⟩⟩
theorem Make_ret{W:World}{B:Nat}{x y z:Value}{tm:Array Value}{R:Ending→World→Prop}(h2:tm[6]?.getD undef=.pointer (some ⟨B,0,none⟩))(hV:Var3 W B x y z)(hR:R (.returned (.agg #[x,y,z])) W):
  bodyPost Tryz.prog Tryz.f47 R .ret {tmps:=tm,defers:=[]} W:=by
 obtain⟨c0,c1,c2,_,_,_⟩:=hV.cells;exact bodyPost_ret (v:=.agg #[x,y,z]) (by simp [results,Tryz.results47,go_sem,h2,c0,c1,c2]) rfl hR
theorem Make_short(s)(vn vd:Value)(n d:Nat)(w:World)(hn:Rep B16 w vn n)(hd:Rep B16 w vd d)(hnB:n < B16 ^ 1000000000)(hc:n=0∨d≤1):
  Calls Tryz.prog 47 #[.bool s,vn,vd] w fun e w'=>∃v,e=.returned v∧QNorm w' v (mkq s n d)∧Bw w w':=by
 obtain⟨i0,hi,hz0,hz1,hz2⟩:=info_parts Tryz.infoU32;obtain⟨p1,k1,c1,rfl,hk1,hl1,hs1⟩:=hn;obtain⟨p2,k2,c2,rfl,hk2,hl2,hs2⟩:=hd;have hz1':=hl1.zero_iff B16_pos;have hz2':=hl2.zero_iff B16_pos;have ho2:=one_of_len16 hl2;have hb1:=hl1.le B16_pos hnB
 by_cases h0:n=0∨d=0
 ·have hm:mkq s n d=(false,0,1):=if_pos h0;rw[hm]
  have hcs:k1=0∨(((k1:Int) == 0)=false∧k2=0):=by
   by_cases h:k1=0
   ·exact .inl h
   ·exact .inr ⟨by simpa using h,hz2'.1 (h0.resolve_left fun h'=>h (hz1'.1 h'))⟩
  clear hz1' hz2' ho2 hl1 hl2 hs1 hs2 hm h0 hc hnB
  rcases hcs with rfl | ⟨hf,rfl⟩
  all_goals
   go_enter Tryz.func47,Tryz.ntmps47
   go_wp2_with fail
   refine(NatOf_any 1 _ (by decide)).mono ?_
   rintro e w1 ⟨v1,rfl,hR1,hB1⟩
   have hV:=(Var3.alloc w (x:=.bool false) (y:=.slice none 0 0) (z:=.slice none 0 0) 40 trivial trivial trivial).below hB1
   have HP:=hid (Ai hR1 (Ai hV (((Br _ _).alloc (Lr _) (.cells #[.bool false,.slice none 0 0,.slice none 0 0] 40)).trans (hB1.mono (by rw[World.size_alloc];omega)))))
   obtain⟨x0,x1,x2,y0,y1,y2⟩:=hV.cells
   obtain⟨pb,kb,cb,rfl,_⟩:=id hR1
   clear hR1 hV hB1
   go_wp2_with fail
   exact Make_ret rfl (HP.out.2.1.store trivial trivial trivial) ⟨_,rfl,⟨_,_,rfl,Rep.nil,HP.out.1.store3 HP.out.2.1 _ _ _⟩,below_set3 HP.out.2.2 (Lr _)⟩
 ·have hd1:d=1:=by omega
  have hn0:n≠0:=fun h=>h0 (.inl h)
  subst hd1;rw[mkq_one hn0];obtain⟨rfl,hdg⟩:=ho2.1 rfl;obtain⟨b2,o2,rfl,hc2⟩:=hs2 (by omega);have hc20:=hc2 0 (by omega);rw[hdg,Nat.add_zero] at hc20
  have hk10:k1≠0:=fun h=>hn0 (hz1'.2 h)
  have hf:((k1:Int) == 0)=false:=by simpa using hk10
  obtain⟨b1,o1,rfl,hc1⟩:=hs1 (by omega)
  have hcell:(w.alloc (.cells #[.bool false,.slice none 0 0,.slice none 0 0] 40)).cell? ⟨b2,o2,none⟩=some (.int .u32 1):=by rw[World.cell?_alloc_lt _ _ _ (World.block_lt_of_cell? _ _ hc20)];exact hc20
  have hV0:=Var3.alloc w (x:=.bool false) (y:=.slice none 0 0) (z:=.slice none 0 0) 40 trivial trivial trivial;have hB0:=(Br w.heap.size w).alloc (Lr _) (.cells #[.bool false,.slice none 0 0,.slice none 0 0] 40);have HS:=hid (Ai hs1 (Ai hl1 (Ai hV0 hB0)));have Hc1:=hid hc1;clear hz1' hz2' ho2 hl1 hl2 hs1 hs2 h0 hc hnB hdg hc2 hn0 hc20 hc1 hV0 hB0;go_enter Tryz.func47,Tryz.ntmps47;go_upto_region 4 with fail;generalize w.alloc (.cells #[.bool false,.slice none 0 0,.slice none 0 0] 40)=W0 at *;have hK1:=HS.out.2.2.2.alloc HS.out.2.2.2.size (.cells #[] 65);have hnews:=hid (slc_news (HS.out.1.below hK1));have hown:=hid (own_empty W0 w.heap.size HS.out.2.2.2.size)
  go_wp2_with (first
   | (at_builtin;refine wpList_append_own _ rfl _ _ 38 rfl w.heap.size 65 i0 (.int .u32 0) 1 4 Tryz.underlying38 hi hz0 hz1 hz2 rfl (by decide) _ _ _ rfl hown.out ⟨b1,o1,none⟩ k1 c1 ((List.range k1).map (fun j=>Value.int .u32 (dg B16 n j:Nat))) rfl (by simp) hnews.out (fun x hx=>by simp at hx;obtain⟨_,_,rfl⟩:=hx;rfl) (by unfold maxLen;omega) (by omega) (by rw[World.size_alloc];have:=HS.out.2.2.2.size;omega) ?_;intro v' w3 hown' hgrow3 hnil3))
  have hB3:Bw W0 w3:=((Br W0.heap.size W0).alloc (Lr _) (.cells #[] 65)).grown (show(W0.alloc (.cells #[] 65)).grownBy w3 (Value.ownBlock (.slice (some ⟨W0.heap.size,0,none⟩) 0 0)) from hgrow3) (by rw[World.size_alloc];omega) (fun q hq=>by simp only[Value.ownBlock,Option.some.injEq] at hq;omega)
  have hO3:Own w3 w.heap.size v' k1 (dg B16 n):=by simpa[Own] using hown'
  clear hown' hgrow3 hnil3 hnews hown hK1 hcell Hc1;obtain⟨p3,c3,rfl,hkc,hsl3⟩:=hO3.slc;have HP3:=hid (Ai (show Rep B16 w3 (.slice p3 k1 c3) n from⟨p3,k1,c3,rfl,hkc,HS.out.2.1,hsl3⟩) (Ai (HS.out.2.2.1.below hB3) (HS.out.2.2.2.trans (hB3.mono HS.out.2.2.2.size))));clear hB3 hO3 hsl3;refine(NatOf_any 1 _ (by decide)).mono ?_;rintro e w4 ⟨v1,rfl,hR1,hB4⟩;have hV:=HP3.out.2.1.below hB4;have HP:=hid (Ai hR1 (Ai (HP3.out.1.below hB4) (Ai hV (HP3.out.2.2.trans (hB4.mono HP3.out.2.2.size)))));obtain⟨x0,x1,x2,y0,y1,y2⟩:=hV.cells;obtain⟨pb,kb,cb,rfl,_⟩:=id hR1;clear hR1 hV hB4 HP3;go_wp2_with fail;exact Make_ret rfl (HP.out.2.2.1.store trivial trivial trivial) ⟨_,rfl,⟨_,_,rfl,HP.out.2.1.store3 HP.out.2.2.1 _ _ _,HP.out.1.store3 HP.out.2.2.1 _ _ _⟩,below_set3 HP.out.2.2.2 (Lr _)⟩
def MakeOK (n d:Nat):Prop:=∀s (vn vd:Value) (w:World),Rep B16 w vn n→Rep B16 w vd d→
 Calls Tryz.prog 47 #[.bool s,vn,vd] w fun e w'=>∃v,e=.returned v∧QNorm w' v (mkq s n d)∧Bw w w'
theorem MakeOK.short{n d:Nat}(hn:n < B16 ^ 1000000000)(hc:n=0∨d≤1):MakeOK n d:=fun s vn vd w h1 h2=>Make_short s vn vd n d w h1 h2 hn hc
theorem qopen{f:FuncId}{args:Array Value}{w:World}{t:Tq}(h:Calls Tryz.prog f args w fun e w'=>∃v,e=.returned v∧QNorm w' v t∧Bw w w'):
  Calls Tryz.prog f args w fun e w'=>∃sg pa ka ca pb kb cb,e=.returned (.agg #[.bool sg,.slice pa ka ca,.slice pb kb cb])∧Hid (QNorm w' (.agg #[.bool sg,.slice pa ka ca,.slice pb kb cb]) t)∧Bw w w':=by
 refine h.mono ?_;rintro e w' ⟨v,he,hF,hB⟩;obtain⟨vn,vd,hv,h1,h2⟩:=hF;obtain⟨pa,ka,ca,rfl,a1⟩:=id h1;obtain⟨pb,kb,cb,rfl,a2⟩:=id h2;exact⟨t.1,pa,ka,ca,pb,kb,cb,by rw[he,hv],hid ⟨_,_,rfl,h1,h2⟩,hB⟩
theorem QNorm.store3{w:World}{B:Nat}{a b c:Value}{v:Value}{t:Tq}(h:QNorm w v t)(hV:Var3 w B a b c)(x y z:Value):QNorm (((w.setCell ⟨B,0,none⟩ x).setCell ⟨B,1,none⟩ y).setCell ⟨B,2,none⟩ z) v t:=by
 obtain⟨vn,vd,hv,h1,h2⟩:=h;exact⟨vn,vd,hv,h1.store3 hV _ _ _,h2.store3 hV _ _ _⟩
theorem rOf_ret{W:World}{B:Nat}{x y z:Value}{tm:Array Value}{R:Ending→World→Prop}(h2:tm[2]?.getD undef=.pointer (some ⟨B,0,none⟩))(hV:Var3 W B x y z)(hR:R (.returned (.agg #[x,y,z])) W):
  bodyPost Tryz.prog Tryz.f94 R .ret {tmps:=tm,defers:=[]} W:=by
 obtain⟨c0,c1,c2,_,_,_⟩:=hV.cells;exact bodyPost_ret (v:=.agg #[x,y,z]) (by simp [results,Tryz.results94,go_sem,h2,c0,c1,c2]) rfl hR
theorem rInt_ret{W:World}{B:Nat}{x y z:Value}{tm:Array Value}{R:Ending→World→Prop}(h2:tm[2]?.getD undef=.pointer (some ⟨B,0,none⟩))(hV:Var3 W B x y z)(hR:R (.returned (.agg #[x,y,z])) W):
  bodyPost Tryz.prog Tryz.f20 R .ret {tmps:=tm,defers:=[]} W:=by
 obtain⟨c0,c1,c2,_,_,_⟩:=hV.cells;exact bodyPost_ret (v:=.agg #[x,y,z]) (by simp [results,Tryz.results20,go_sem,h2,c0,c1,c2]) rfl hR
theorem rOf_any(v:Value)(s:Bool)(n d:Nat)(w:World)(h:ARep w v s n d)(hM:MakeOK n (den1 d)):
  Calls Tryz.prog 94 #[v] w fun e w'=>∃v',e=.returned v'∧QNorm w' v' (mkq s n (den1 d))∧Bw w w':=by
 obtain⟨vn,vd,rfl,⟨p1,k1,c1,rfl,hk1,hb1,hx1,hs1⟩,⟨p2,k2,c2,rfl,hk2,hb2,hx2,hs2⟩⟩:=h;have hW1:=hid (fun (W:World) (hW:Bw w W)=>words16_any p1 k1 c1 n W hb1 hk1 hx1 (hs1.below hW));have hW2:=hid (fun (W:World) (hW:Bw w W)=>words16_any p2 k2 c2 d W hb2 hk2 hx2 (hs2.below hW));have HM:=hid (fun (W:World) (vn vd:Value) (h1:Rep B16 W vn n) (h2:Rep B16 W vd (den1 d))=>qopen (hM s vn vd W h1 h2));clear hM hs1 hs2 hx1 hx2;go_enter Tryz.func94,Tryz.ntmps94;go_upto_region 1 with fail;have hVa:=(Var3.alloc w (x:=.bool s) (y:=.slice p1 k1 c1) (z:=.slice p2 k2 c2) 24 trivial trivial trivial).below ((Br _ _).alloc (Lr _) (.cells #[.bool false,.slice none 0 0,.slice none 0 0] 40));have hVr:=Var3.alloc2 w (.cells #[.bool s,.slice p1 k1 c1,.slice p2 k2 c2] 24) (x:=.bool false) (y:=.slice none 0 0) (z:=.slice none 0 0) 40 trivial trivial trivial;have hB0:=below_alloc2 w (.cells #[.bool s,.slice p1 k1 c1,.slice p2 k2 c2] 24) (.cells #[.bool false,.slice none 0 0,.slice none 0 0] 40);generalize(w.alloc (.cells #[.bool s,.slice p1 k1 c1,.slice p2 k2 c2] 24)).alloc (.cells #[.bool false,.slice none 0 0,.slice none 0 0] 40)=W0 at *;obtain⟨x0,x1,x2,_⟩:=id hVa.cells;have hcall:=hid (hW2.out W0 hB0);have HV:=hid (Ai hVa (Ai hVr hB0));clear hVa hVr hB0;go_wp2_with fail;refine hcall.out.mono ?_;rintro e w1 ⟨v1,rfl,hR1,hB1⟩;clear hcall x0 x1 x2;have HV1:=hid (Ai (HV.out.1.below hB1) (Ai (HV.out.2.1.below hB1) (HV.out.2.2.trans (hB1.mono HV.out.2.2.size))))
 have hn1:w.heap.size+1≤w1.heap.size:=by obtain⟨_,h0,_⟩:=HV1.out.2.1;exact Nat.le_of_lt (Array.getElem?_eq_some_iff.1 h0).1
 have HS:Hid (∀w',Below (w.heap.size+1) w1 w'→(w'.cell? ⟨w.heap.size,0,none⟩=some (.bool s)∧w'.cell? ⟨w.heap.size,1,none⟩=some (.slice p1 k1 c1)∧Hid (Below (w.heap.size+1) w1 w'))):=
  hid fun w' hb=>⟨(bcellN hb _ _ (Nat.lt_succ_self _)).trans HV1.out.1.cells.1,(bcellN hb _ _ (Nat.lt_succ_self _)).trans HV1.out.1.cells.2.1,hid hb⟩
 obtain⟨p3,k3,c3,rfl,_,hl3,_⟩:=id hR1;have hz3:=hl3.zero_iff B16_pos
 by_cases h0:k3=0
 case' pos=>
  subst h0;have hd0:=hz3.2 rfl;clear hl3 hz3;go_wp2_with fail;refine(NatOf_any 1 _ (by decide)).mono ?_;rintro e w2 ⟨vd,rfl,hR2,hB2⟩;have HD:Hid (Rep B16 w2 vd (den1 d)∧Bw w1 w2):=hid ⟨by rw[hd0];exact hR2,hB2⟩;clear hR2 hB2 hd0;go_upto_region 4 with fail
 case' neg=>
  have hf:((k3:Int) == 0)=false:=by simpa using h0
  have hd0:¬d=0:=fun h=>h0 (hz3.1 h)
  have HD:Hid (Rep B16 w1 (.slice p3 k3 c3) (den1 d)∧Bw w1 w1):=hid ⟨by rw[show den1 d=d from if_neg hd0];exact hR1,Br _ _⟩;clear hl3 hz3 h0 hd0;go_upto_region 4 with fail
 all_goals
  have hwd:=(HV1.out.2.2.trans (HD.out.2.mono HV1.out.2.2.size)).drew
  go_region_held3 (fun w'=>w'.cell? ⟨w.heap.size,0,none⟩=some (.bool s)∧w'.cell? ⟨w.heap.size,1,none⟩=some (.slice p1 k1 c1)∧Hid (Below (w.heap.size+1) w1 w'))
   (first | exact HS.out _ ((HD.out.2.mono hn1).drew) | (exact HS.out _ (by assumption)) | exact HS.out _ (below_set3 (by assumption) (Lr _)))
   (first
    | (go_at_call 136;refine(hW1.out _ hwd).mono ?_;rintro e wo ⟨vo,rfl,hRo,hBo⟩;have hKo:=held_any (HD.out.2.drew) hBo;have hKo2:=hKo.mono hn1)
    | (go_at_call 47;refine(HM.out _ _ _ hRo (HD.out.1.drew.below hBo)).mono ?_;rintro e wf ⟨sg,pa,ka,ca,pb,kb,cb,rfl,HF,hBf⟩;have hKf:=held_any hKo hBf;have hKf2:=hKf.mono hn1;obtain⟨x0,x1,x2,y0,y1,y2⟩:=(HV1.out.2.1.below hKf).cells))
  rename_i hHeld
  clear hHeld
  go_wp2_with fail
  have hV:=HV1.out.2.1.below hKf
  exact rOf_ret rfl (hV.store trivial trivial trivial) ⟨_,rfl,HF.out.store3 hV _ _ _,below_set3 (HV1.out.2.2.trans (hKf.mono HV1.out.2.2.size)) (Nat.le_succ _)⟩
theorem lt_16{x a:Nat}(h:x < B16 ^ a)(hab:a≤1000000000):x < B16 ^ 1000000000:=by
 generalize 1000000000=b at *;exact Nat.lt_of_lt_of_le h (Nat.pow_le_pow_right B16_pos hab)
theorem MakeOK.int(m:Nat)(h:m < 18446744073709551616):MakeOK m 1:=
 MakeOK.short (lt_16 (a:=4) (by rw[show B16 ^ 4=18446744073709551616 by decide];exact h) (by omega)) (Or.inr (Lr 1))
theorem rInt_any(n)(w:World)(hlo:-9223372036854775808≤n)(hhi:n < 9223372036854775808):
  Calls Tryz.prog 20 #[.int .i64 n] w fun e w'=>∃v',e=.returned v'∧QNorm w' v' (mkq (decide (n < 0)) n.natAbs 1)∧Bw w w':=by
 have HN:=hid (fun W=>NatOf_any n.natAbs W (by omega));have HN1:=hid (fun W=>NatOf_any 1 W (by decide));have hmk:=MakeOK.int n.natAbs (by omega);have HM:=hid (fun (s:Bool) (W:World) (vn vd:Value) (h1:Rep B16 W vn n.natAbs) (h2:Rep B16 W vd 1)=>qopen (hmk s vn vd W h1 h2));obtain⟨m,hm⟩:∃m,m=n.natAbs:=⟨_,rfl⟩;rw[←hm] at HN HM ⊢;clear hmk
 by_cases h0:n < 0
 case' pos=>
  rw[decide_eq_true h0];have hd:decide (n < 0)=true:=decide_eq_true h0
  have e1:IntKind.i64.wrap (n+1)=n+1:=by simp [IntKind.wrap,IntKind.bits,IntKind.signed];omega
  have e2:IntKind.i64.wrap (-(n+1))=-(n+1):=by simp [IntKind.wrap,IntKind.bits,IntKind.signed];omega
  have e3:IntKind.u64.wrap (-(n+1))=-(n+1):=by simp [IntKind.wrap,IntKind.bits,IntKind.signed];omega
  have e4:IntKind.u64.wrap (-(n+1)+1)=(m:Int):=by simp [IntKind.wrap,IntKind.bits,IntKind.signed];omega
  clear hm hlo hhi;go_enter Tryz.func20,Tryz.ntmps20;go_wp2_with fail
 case' neg=>
  rw[decide_eq_false h0]
  obtain rfl:n=(m:Int):=by omega
  clear hm;go_enter Tryz.func20,Tryz.ntmps20;go_wp2_with fail
 all_goals
  refine(HN.out _).mono ?_
  rintro e w1 ⟨v1,rfl,hR1,hB1⟩
  go_wp2_with fail
  refine(HN1.out _).mono ?_
  rintro e w2 ⟨v2,rfl,hR2,hB2⟩
  go_wp2_with fail
  refine(HM.out _ _ _ _ (hR1.below hB2) hR2).mono ?_
  rintro e w3 ⟨sg,pa,ka,ca,pb,kb,cb,rfl,HF,hB3⟩
  have hV:=(((Var3.alloc w (x:=.bool false) (y:=.slice none 0 0) (z:=.slice none 0 0) 40 trivial trivial trivial).below hB1).below hB2).below hB3
  have hK0:=(Br w.heap.size w).alloc (Lr _) (.cells #[.bool false,.slice none 0 0,.slice none 0 0] 40)
  have hK1:=hK0.trans (hB1.mono hK0.size)
  have hK2:=hK1.trans (hB2.mono hK1.size)
  have HP:=hid (Ai hV (hK2.trans (hB3.mono hK2.size)))
  obtain⟨x0,x1,x2,y0,y1,y2⟩:=hV.cells
  clear hK0 hK1 hK2 hB1 hB2 hB3 hR1 hR2 hV
  go_wp2_with fail
  exact rInt_ret rfl (HP.out.1.store trivial trivial trivial) ⟨_,rfl,HF.out.store3 HP.out.1 _ _ _,below_set3 HP.out.2 (Lr _)⟩
theorem rRat_ret{W:World}{B:Nat}{x y z:Value}{tm:Array Value}{R:Ending→World→Prop}(h2:tm[2]?.getD undef=.pointer (some ⟨B,0,none⟩))(hV:Var3 W B x y z)(hR:R (.returned (.agg #[x,y,z])) W):
  bodyPost Tryz.prog Tryz.f19 R .ret {tmps:=tm,defers:=[]} W:=by
 obtain⟨c0,c1,c2,_,_,_⟩:=hV.cells;exact bodyPost_ret (v:=.agg #[x,y,z]) (by simp [results,Tryz.results19,go_sem,h2,c0,c1,c2]) rfl hR
def CutRat (w1:World) (n:Nat) (sg:Bool) (v3:Value) (wx:World):Prop:=
 ∃X pa ka ca,v3=.pointer (some ⟨X,0,none⟩)∧Var3 wx X (.bool sg) (.slice pa ka ca) (.slice none 0 0)∧Rep W32 wx (.slice pa ka ca) n∧Bw w1 wx∧w1.heap.size≤X
def den0' (d:Nat):Nat:=if d≤1 then 0 else d
theorem rRat_any(v:Value)(s:Bool)(n d:Nat)(w:World)(h:QRep w v s n d)(hn:n < B16 ^ 1000000000)(hd:d < B16 ^ 1000000000):
  Calls Tryz.prog 19 #[v] w fun e w'=>∃v',e=.returned v'∧FRep w' v' (s && decide (n≠0)) n (den0' d)∧Bw w w':=by
 obtain⟨vn,vd,rfl,hrn,hrd⟩:=h;have HR:=hid (Ai hrn hrd);obtain⟨p1,k1,c1,rfl,_,hl1,_⟩:=hrn;obtain⟨p2,k2,c2,rfl,_⟩:=hrd;have hz1:=hl1.zero_iff B16_pos;have HN:=hid (Ai hn hd);obtain⟨sg,hsg⟩:∃sg,sg=(s && decide (n≠0)):=⟨_,rfl⟩;rw[←hsg]
 have hcase:(s=false∧sg=false)∨(s=true∧k1=0∧sg=false)∨(s=true∧0 < k1∧sg=true):=by
  cases s
  ·exact .inl ⟨rfl,by rw[hsg];rfl⟩
  ·by_cases hk:k1=0
   ·exact .inr (.inl ⟨rfl,hk,by rw[hsg,hz1.2 hk];rfl⟩)
   ·exact .inr (.inr ⟨rfl,by omega,by rw[hsg];simp;exact fun h=>hk (hz1.1 h)⟩)
 clear hn hd hz1 hl1 hsg;go_enter Tryz.func19,Tryz.ntmps19;go_upto_region 1 with fail;have hVa:=(Var3.alloc w (x:=.bool s) (y:=.slice p1 k1 c1) (z:=.slice p2 k2 c2) 40 trivial trivial trivial).below ((Br _ _).alloc (Lr _) (.cells #[.bool false,.slice none 0 0,.slice none 0 0] 24));have hVr:=Var3.alloc2 w (.cells #[.bool s,.slice p1 k1 c1,.slice p2 k2 c2] 40) (x:=.bool false) (y:=.slice none 0 0) (z:=.slice none 0 0) 24 trivial trivial trivial;have hB0:=below_alloc2 w (.cells #[.bool s,.slice p1 k1 c1,.slice p2 k2 c2] 40) (.cells #[.bool false,.slice none 0 0,.slice none 0 0] 24);generalize(w.alloc (.cells #[.bool s,.slice p1 k1 c1,.slice p2 k2 c2] 40)).alloc (.cells #[.bool false,.slice none 0 0,.slice none 0 0] 24)=w1 at *
 have HP:Hid ((Rep B16 w1 (.slice p1 k1 c1) n∧Rep B16 w1 (.slice p2 k2 c2) d)∧(Var3 w1 w.heap.size (.bool s) (.slice p1 k1 c1) (.slice p2 k2 c2)∧Var3 w1 (w.heap.size+1) (.bool false) (.slice none 0 0) (.slice none 0 0))∧Bw w w1):=
  hid ⟨⟨HR.out.1.below hB0,HR.out.2.below hB0⟩,⟨hVa,hVr⟩,hB0⟩
 clear hVa hVr hB0 HR
 have HS:Hid (∀w',Bw w1 w'→(w'.cell? ⟨w.heap.size,0,none⟩=some (.bool s)∧w'.cell? ⟨w.heap.size,1,none⟩=some (.slice p1 k1 c1)∧w'.cell? ⟨w.heap.size,2,none⟩=some (.slice p2 k2 c2)∧Hid (Bw w1 w'))):=
  hid fun w' hb=>⟨(HP.out.2.1.1.below hb).cells.1,(HP.out.2.1.1.below hb).cells.2.1,(HP.out.2.1.1.below hb).cells.2.2.1,hid hb⟩
 have hWd:=hid (fun (W:World) (hW:Bw w1 W)=>list_any (.slice p1 k1 c1) n W (HP.out.1.1.below hW) HN.out.1)
 go_cut [3] from 4 to 15 (fun v3 wx=>CutRat w1 n sg v3 wx)
 case first=>
  rcases hcase with ⟨rfl,rfl⟩ | ⟨rfl,rfl,rfl⟩ | ⟨rfl,hk,rfl⟩
  case inl=>
   refine wp_region_noPanic ?_;refine wp_region_held_drew (S:=(fun w'=>w'.cell? ⟨w.heap.size,0,none⟩=some (.bool false)∧w'.cell? ⟨w.heap.size,1,none⟩=some (.slice p1 k1 c1)∧w'.cell? ⟨w.heap.size,2,none⟩=some (.slice p2 k2 c2)∧Hid (Bw w1 w'))) (by kernel_rfl) (HS.out _ (Br _ _).drew) (fun hHeld=>?_);refine wpAnyH_take (i:=0) (v:=?vv1) rfl (by kernel_rfl) (by kernel_rfl) (by kernel_rfl) (fun _ _ _ h=>h) (Or.inl ⟨by rfl,?hy1⟩) (by assumption) ?rest1
   case hy1=>(intro w' hSw;(try dsimp only at hSw);go_simp;first | done | with_reducible rfl)
   simp only[Act.put,Sa];refine wpAnyH_take (i:=1) (v:=?vv2) rfl (by kernel_rfl) (by kernel_rfl) (by kernel_rfl) (fun _ _ _ h=>h) (Or.inl ⟨by rfl,?hy2⟩) (by assumption) ?rest2
   case hy2=>(intro w' hSw;(try dsimp only at hSw);go_simp;first | done | with_reducible rfl)
   simp only[Act.put];refine wpAnyH_take (i:=2) (v:=?vv3) rfl (by kernel_rfl) (by kernel_rfl) (by kernel_rfl) (fun _ _ _ h=>h) (Or.inl ⟨by rfl,?hy3⟩) (by assumption) ?rest3
   case hy3=>(intro w' hSw;(try dsimp only at hSw);go_simp;first | done | with_reducible rfl)
   simp only[Act.put];refine wpAnyH_take (i:=3) rfl (by kernel_rfl) (by kernel_rfl) (by kernel_rfl) (fun _ _ _ h=>h) (Or.inr ⟨by rfl,rfl⟩) (by assumption) ?rest4;simp only[Act.put];refine wpAnyH_take (i:=4) rfl (by kernel_rfl) (by kernel_rfl) (by kernel_rfl) (fun _ _ _ h=>h) (Or.inr ⟨by rfl,rfl⟩) (by assumption) ?rest5;simp only[Act.put];refine wpAnyH_take (i:=5) rfl (by kernel_rfl) (by kernel_rfl) (by kernel_rfl) (fun _ _ _ h=>h) (Or.inr ⟨by rfl,rfl⟩) (by assumption) ?rest6;simp only[Act.put];refine wpAnyH_take (i:=6) rfl (by kernel_rfl) (by kernel_rfl) (by kernel_rfl) (fun _ _ _ h=>h) (Or.inr ⟨by rfl,rfl⟩) (by assumption) ?rest7;simp only[Act.put];refine wpAnyH_take (i:=7) (v:=?vv8) rfl (by kernel_rfl) (by kernel_rfl) (by kernel_rfl) (fun _ _ _ h=>h) (Or.inl ⟨by rfl,?hy8⟩) (by assumption) ?rest8
   case hy8=>(intro w' hSw;(try dsimp only at hSw);go_simp;first | done | with_reducible rfl)
   simp only[Act.put];refine wpAnyH_take (i:=8) (v:=?vv9) rfl (by kernel_rfl) (by kernel_rfl) (by kernel_rfl) (fun _ _ _ h=>h) (Or.inl ⟨by rfl,?hy9⟩) (by assumption) ?rest9
   case hy9=>(intro w' hSw;(try dsimp only at hSw);go_simp;first | done | with_reducible rfl)
   simp only[Act.put];refine wpAnyH_take (i:=9) (v:=?vv10) rfl (by kernel_rfl) (by kernel_rfl) (by kernel_rfl) (fun _ _ _ h=>h) (Or.inl ⟨by rfl,?hy10⟩) (by assumption) ?rest10
   case hy10=>(intro w' hSw;(try dsimp only at hSw);go_simp;first | done | with_reducible rfl)
   simp only[Act.put];refine wpAnyH_ready (rs:=[10,12]) (by kernel_rfl) (by simp) ?_;refine .cons rfl (fun K hK=>?_) (.cons rfl (fun K hK=>?_) .nil)
   ·go_simp;go_at_call 45;refine(hWd.out _ (held3' (by assumption))).mono ?_;rintro e wc ⟨vc,rfl,hRc,hBc⟩;have hKc:=held_any (held3' (W0:=w1) (by assumption)) hBc;obtain⟨pa,ka,ca,rfl,hRc'⟩:=id hRc;clear hRc';go_wp2_with fail;refine hK.out _ _ ?_ (fun hHeld=>?_)
    ·(try dsimp only);(first | assumption | exact HS.out _ (Br _ _).drew | (exact HS.out _ (by assumption)) | (exact HS.out _ (held3_alloc (by assumption) _)) | (exact HS.out _ (held3_alloc' (by assumption) _)) | (exact HS.out _ (below_al1 (by assumption) _)) | (exact HS.out _ (below_set3 (by assumption) (Lr _))))
    clear hK K;(try simp only[Act.put,Sa,Sz,Sc]);refine wpAnyH_take (i:=11) (v:=?vv11) rfl (by kernel_rfl) (by kernel_rfl) (by kernel_rfl) (fun _ _ _ h=>h) (Or.inl ⟨by rfl,?hy11⟩) (by assumption) ?rest11
    case hy11=>(intro w' hSw;(try dsimp only at hSw);go_simp;first | done | with_reducible rfl)
    simp only[Act.put,Sa];refine wpAnyH_ready (rs:=[12]) (by kernel_rfl) (by simp) ?_;refine .cons rfl (fun K hK=>?_) .nil;go_simp;refine hK.out _ _ ?_ (fun hHeld=>?_)
    ·(try dsimp only);(first | assumption | exact HS.out _ (Br _ _).drew | (exact HS.out _ (by assumption)) | (exact HS.out _ (held3_alloc (by assumption) _)) | (exact HS.out _ (held3_alloc' (by assumption) _)) | (exact HS.out _ (below_al1 (by assumption) _)) | (exact HS.out _ (below_set3 (by assumption) (Lr _))))
    clear hK K;(try simp only[Act.put,Sa,Sz,Sc]);refine wpAnyH_ready (rs:=[13]) (by kernel_rfl) (by simp) ?_;refine .cons rfl (fun K hK=>?_) .nil;go_simp;refine hK.out _ _ ?_ (fun hHeld=>?_)
    ·(try dsimp only);(first | assumption | exact HS.out _ (Br _ _).drew | (exact HS.out _ (by assumption)) | (exact HS.out _ (held3_alloc (by assumption) _)) | (exact HS.out _ (held3_alloc' (by assumption) _)) | (exact HS.out _ (below_al1 (by assumption) _)) | (exact HS.out _ (below_set3 (by assumption) (Lr _))))
    clear hK K;(try simp only[Act.put,Sa,Sz,Sc]);refine wpAnyH_done (by kernel_rfl) (NoPanic.normal ?_) _;go_wp2_with fail
    go_meet
    exact⟨wc.heap.size,pa,ka,ca,rfl,Var3.alloc wc 24 trivial trivial trivial,hRc.alloc _,below_al1 hKc _,hKc.size⟩
   ·go_simp;refine hK.out _ _ ?_ (fun hHeld=>?_)
    ·(try dsimp only);(first | assumption | exact HS.out _ (Br _ _).drew | (exact HS.out _ (by assumption)) | (exact HS.out _ (held3_alloc (by assumption) _)) | (exact HS.out _ (held3_alloc' (by assumption) _)) | (exact HS.out _ (below_al1 (by assumption) _)) | (exact HS.out _ (below_set3 (by assumption) (Lr _))))
    clear hK K;(try simp only[Act.put,Sa,Sz,Sc]);refine wpAnyH_ready (rs:=[10]) (by kernel_rfl) (by simp) ?_;refine .cons rfl (fun K hK=>?_) .nil;go_simp;go_at_call 45;refine(hWd.out _ (held3' (by assumption))).mono ?_;rintro e wc ⟨vc,rfl,hRc,hBc⟩;have hKc:=held_any (held3' (W0:=w1) (by assumption)) hBc;obtain⟨pa,ka,ca,rfl,hRc'⟩:=id hRc;clear hRc';have hVn:=((Var3.alloc w1 (x:=.bool false) (y:=.slice none 0 0) (z:=.slice none 0 0) 24 trivial trivial trivial).below (Br _ _).drew).below hBc;obtain⟨x0,x1,x2,y0,y1,y2⟩:=id hVn.cells;go_wp2_with fail;refine hK.out _ _ ?_ (fun hHeld=>?_)
    ·(try dsimp only);(first | assumption | exact HS.out _ (Br _ _).drew | (exact HS.out _ (by assumption)) | (exact HS.out _ (held3_alloc (by assumption) _)) | (exact HS.out _ (held3_alloc' (by assumption) _)) | (exact HS.out _ (below_al1 (by assumption) _)) | (exact HS.out _ (below_set3 (by assumption) (Lr _))))
    clear hK K;(try simp only[Act.put,Sa,Sz,Sc]);refine wpAnyH_take (i:=11) (v:=?vv12) rfl (by kernel_rfl) (by kernel_rfl) (by kernel_rfl) (fun _ _ _ h=>h) (Or.inl ⟨by rfl,?hy12⟩) (by assumption) ?rest12
    case hy12=>(intro w' hSw;(try dsimp only at hSw);go_simp;first | done | with_reducible rfl)
    simp only[Act.put,Sa];refine wpAnyH_ready (rs:=[13]) (by kernel_rfl) (by simp) ?_;refine .cons rfl (fun K hK=>?_) .nil;go_simp;refine hK.out _ _ ?_ (fun hHeld=>?_)
    ·(try dsimp only);(first | assumption | exact HS.out _ (Br _ _).drew | (exact HS.out _ (by assumption)) | (exact HS.out _ (held3_alloc (by assumption) _)) | (exact HS.out _ (held3_alloc' (by assumption) _)) | (exact HS.out _ (below_al1 (by assumption) _)) | (exact HS.out _ (below_set3 (by assumption) (Lr _))))
    clear hK K;(try simp only[Act.put,Sa,Sz,Sc]);refine wpAnyH_done (by kernel_rfl) (NoPanic.normal ?_) _;go_wp2_with fail
    go_meet
    exact⟨w1.heap.size,pa,ka,ca,rfl,hVn.store trivial trivial trivial,hRc.store3 hVn _ _ _,below_set3 hKc (Lr _),Lr _⟩
  case inr.inl=>
   refine wp_region_noPanic ?_;refine wp_region_held_drew (S:=(fun w'=>w'.cell? ⟨w.heap.size,0,none⟩=some (.bool true)∧w'.cell? ⟨w.heap.size,1,none⟩=some (.slice p1 0 c1)∧w'.cell? ⟨w.heap.size,2,none⟩=some (.slice p2 k2 c2)∧Hid (Bw w1 w'))) (by kernel_rfl) (HS.out _ (Br _ _).drew) (fun hHeld=>?_);refine wpAnyH_take (i:=0) (v:=?vv13) rfl (by kernel_rfl) (by kernel_rfl) (by kernel_rfl) (fun _ _ _ h=>h) (Or.inl ⟨by rfl,?hy13⟩) (by assumption) ?rest13
   case hy13=>(intro w' hSw;(try dsimp only at hSw);go_simp;first | done | with_reducible rfl)
   simp only[Act.put,Sa];refine wpAnyH_take (i:=1) (v:=?vv14) rfl (by kernel_rfl) (by kernel_rfl) (by kernel_rfl) (fun _ _ _ h=>h) (Or.inl ⟨by rfl,?hy14⟩) (by assumption) ?rest14
   case hy14=>(intro w' hSw;(try dsimp only at hSw);go_simp;first | done | with_reducible rfl)
   simp only[Act.put];refine wpAnyH_take (i:=2) (v:=?vv15) rfl (by kernel_rfl) (by kernel_rfl) (by kernel_rfl) (fun _ _ _ h=>h) (Or.inl ⟨by rfl,?hy15⟩) (by assumption) ?rest15
   case hy15=>(intro w' hSw;(try dsimp only at hSw);go_simp;first | done | with_reducible rfl)
   simp only[Act.put];refine wpAnyH_take (i:=3) (v:=?vv16) rfl (by kernel_rfl) (by kernel_rfl) (by kernel_rfl) (fun _ _ _ h=>h) (Or.inl ⟨by rfl,?hy16⟩) (by assumption) ?rest16
   case hy16=>(intro w' hSw;(try dsimp only at hSw);go_simp;first | done | with_reducible rfl)
   simp only[Act.put];refine wpAnyH_take (i:=4) (v:=?vv17) rfl (by kernel_rfl) (by kernel_rfl) (by kernel_rfl) (fun _ _ _ h=>h) (Or.inl ⟨by rfl,?hy17⟩) (by assumption) ?rest17
   case hy17=>(intro w' hSw;(try dsimp only at hSw);go_simp;first | done | with_reducible rfl)
   simp only[Act.put];refine wpAnyH_take (i:=5) (v:=?vv18) rfl (by kernel_rfl) (by kernel_rfl) (by kernel_rfl) (fun _ _ _ h=>h) (Or.inl ⟨by rfl,?hy18⟩) (by assumption) ?rest18
   case hy18=>(intro w' hSw;(try dsimp only at hSw);go_simp;first | done | with_reducible rfl)
   simp only[Act.put];refine wpAnyH_take (i:=6) (v:=?vv19) rfl (by kernel_rfl) (by kernel_rfl) (by kernel_rfl) (fun _ _ _ h=>h) (Or.inl ⟨by rfl,?hy19⟩) (by assumption) ?rest19
   case hy19=>(intro w' hSw;(try dsimp only at hSw);go_simp;first | done | with_reducible rfl)
   simp only[Act.put];refine wpAnyH_take (i:=7) (v:=?vv20) rfl (by kernel_rfl) (by kernel_rfl) (by kernel_rfl) (fun _ _ _ h=>h) (Or.inl ⟨by rfl,?hy20⟩) (by assumption) ?rest20
   case hy20=>(intro w' hSw;(try dsimp only at hSw);go_simp;first | done | with_reducible rfl)
   simp only[Act.put];refine wpAnyH_take (i:=8) (v:=?vv21) rfl (by kernel_rfl) (by kernel_rfl) (by kernel_rfl) (fun _ _ _ h=>h) (Or.inl ⟨by rfl,?hy21⟩) (by assumption) ?rest21
   case hy21=>(intro w' hSw;(try dsimp only at hSw);go_simp;first | done | with_reducible rfl)
   simp only[Act.put];refine wpAnyH_take (i:=9) (v:=?vv22) rfl (by kernel_rfl) (by kernel_rfl) (by kernel_rfl) (fun _ _ _ h=>h) (Or.inl ⟨by rfl,?hy22⟩) (by assumption) ?rest22
   case hy22=>(intro w' hSw;(try dsimp only at hSw);go_simp;first | done | with_reducible rfl)
   simp only[Act.put];refine wpAnyH_ready (rs:=[10,12]) (by kernel_rfl) (by simp) ?_;refine .cons rfl (fun K hK=>?_) (.cons rfl (fun K hK=>?_) .nil)
   ·go_simp;go_at_call 45;refine(hWd.out _ (held3' (by assumption))).mono ?_;rintro e wc ⟨vc,rfl,hRc,hBc⟩;have hKc:=held_any (held3' (W0:=w1) (by assumption)) hBc;obtain⟨pa,ka,ca,rfl,hRc'⟩:=id hRc;clear hRc';go_wp2_with fail;refine hK.out _ _ ?_ (fun hHeld=>?_)
    ·(try dsimp only);(first | assumption | exact HS.out _ (Br _ _).drew | (exact HS.out _ (by assumption)) | (exact HS.out _ (held3_alloc (by assumption) _)) | (exact HS.out _ (held3_alloc' (by assumption) _)) | (exact HS.out _ (below_al1 (by assumption) _)) | (exact HS.out _ (below_set3 (by assumption) (Lr _))))
    clear hK K;(try simp only[Act.put,Sa,Sz,Sc]);refine wpAnyH_take (i:=11) (v:=?vv23) rfl (by kernel_rfl) (by kernel_rfl) (by kernel_rfl) (fun _ _ _ h=>h) (Or.inl ⟨by rfl,?hy23⟩) (by assumption) ?rest23
    case hy23=>(intro w' hSw;(try dsimp only at hSw);go_simp;first | done | with_reducible rfl)
    simp only[Act.put,Sa];refine wpAnyH_ready (rs:=[12]) (by kernel_rfl) (by simp) ?_;refine .cons rfl (fun K hK=>?_) .nil;go_simp;refine hK.out _ _ ?_ (fun hHeld=>?_)
    ·(try dsimp only);(first | assumption | exact HS.out _ (Br _ _).drew | (exact HS.out _ (by assumption)) | (exact HS.out _ (held3_alloc (by assumption) _)) | (exact HS.out _ (held3_alloc' (by assumption) _)) | (exact HS.out _ (below_al1 (by assumption) _)) | (exact HS.out _ (below_set3 (by assumption) (Lr _))))
    clear hK K;(try simp only[Act.put,Sa,Sz,Sc]);refine wpAnyH_ready (rs:=[13]) (by kernel_rfl) (by simp) ?_;refine .cons rfl (fun K hK=>?_) .nil;go_simp;refine hK.out _ _ ?_ (fun hHeld=>?_)
    ·(try dsimp only);(first | assumption | exact HS.out _ (Br _ _).drew | (exact HS.out _ (by assumption)) | (exact HS.out _ (held3_alloc (by assumption) _)) | (exact HS.out _ (held3_alloc' (by assumption) _)) | (exact HS.out _ (below_al1 (by assumption) _)) | (exact HS.out _ (below_set3 (by assumption) (Lr _))))
    clear hK K;(try simp only[Act.put,Sa,Sz,Sc]);refine wpAnyH_done (by kernel_rfl) (NoPanic.normal ?_) _;go_wp2_with fail
    go_meet
    exact⟨wc.heap.size,pa,ka,ca,rfl,Var3.alloc wc 24 trivial trivial trivial,hRc.alloc _,below_al1 hKc _,hKc.size⟩
   ·go_simp;refine hK.out _ _ ?_ (fun hHeld=>?_)
    ·(try dsimp only);(first | assumption | exact HS.out _ (Br _ _).drew | (exact HS.out _ (by assumption)) | (exact HS.out _ (held3_alloc (by assumption) _)) | (exact HS.out _ (held3_alloc' (by assumption) _)) | (exact HS.out _ (below_al1 (by assumption) _)) | (exact HS.out _ (below_set3 (by assumption) (Lr _))))
    clear hK K;(try simp only[Act.put,Sa,Sz,Sc]);refine wpAnyH_ready (rs:=[10]) (by kernel_rfl) (by simp) ?_;refine .cons rfl (fun K hK=>?_) .nil;go_simp;go_at_call 45;refine(hWd.out _ (held3' (by assumption))).mono ?_;rintro e wc ⟨vc,rfl,hRc,hBc⟩;have hKc:=held_any (held3' (W0:=w1) (by assumption)) hBc;obtain⟨pa,ka,ca,rfl,hRc'⟩:=id hRc;clear hRc';have hVn:=((Var3.alloc w1 (x:=.bool false) (y:=.slice none 0 0) (z:=.slice none 0 0) 24 trivial trivial trivial).below (Br _ _).drew).below hBc;obtain⟨x0,x1,x2,y0,y1,y2⟩:=id hVn.cells;go_wp2_with fail;refine hK.out _ _ ?_ (fun hHeld=>?_)
    ·(try dsimp only);(first | assumption | exact HS.out _ (Br _ _).drew | (exact HS.out _ (by assumption)) | (exact HS.out _ (held3_alloc (by assumption) _)) | (exact HS.out _ (held3_alloc' (by assumption) _)) | (exact HS.out _ (below_al1 (by assumption) _)) | (exact HS.out _ (below_set3 (by assumption) (Lr _))))
    clear hK K;(try simp only[Act.put,Sa,Sz,Sc]);refine wpAnyH_take (i:=11) (v:=?vv24) rfl (by kernel_rfl) (by kernel_rfl) (by kernel_rfl) (fun _ _ _ h=>h) (Or.inl ⟨by rfl,?hy24⟩) (by assumption) ?rest24
    case hy24=>(intro w' hSw;(try dsimp only at hSw);go_simp;first | done | with_reducible rfl)
    simp only[Act.put,Sa];refine wpAnyH_ready (rs:=[13]) (by kernel_rfl) (by simp) ?_;refine .cons rfl (fun K hK=>?_) .nil;go_simp;refine hK.out _ _ ?_ (fun hHeld=>?_)
    ·(try dsimp only);(first | assumption | exact HS.out _ (Br _ _).drew | (exact HS.out _ (by assumption)) | (exact HS.out _ (held3_alloc (by assumption) _)) | (exact HS.out _ (held3_alloc' (by assumption) _)) | (exact HS.out _ (below_al1 (by assumption) _)) | (exact HS.out _ (below_set3 (by assumption) (Lr _))))
    clear hK K;(try simp only[Act.put,Sa,Sz,Sc]);refine wpAnyH_done (by kernel_rfl) (NoPanic.normal ?_) _;go_wp2_with fail
    go_meet
    exact⟨w1.heap.size,pa,ka,ca,rfl,hVn.store trivial trivial trivial,hRc.store3 hVn _ _ _,below_set3 hKc (Lr _),Lr _⟩
  case inr.inr=>
   refine wp_region_noPanic ?_;refine wp_region_held_drew (S:=(fun w'=>w'.cell? ⟨w.heap.size,0,none⟩=some (.bool true)∧w'.cell? ⟨w.heap.size,1,none⟩=some (.slice p1 k1 c1)∧w'.cell? ⟨w.heap.size,2,none⟩=some (.slice p2 k2 c2)∧Hid (Bw w1 w'))) (by kernel_rfl) (HS.out _ (Br _ _).drew) (fun hHeld=>?_);refine wpAnyH_take (i:=0) (v:=?vv25) rfl (by kernel_rfl) (by kernel_rfl) (by kernel_rfl) (fun _ _ _ h=>h) (Or.inl ⟨by rfl,?hy25⟩) (by assumption) ?rest25
   case hy25=>(intro w' hSw;(try dsimp only at hSw);go_simp;first | done | with_reducible rfl)
   simp only[Act.put,Sa];refine wpAnyH_take (i:=1) (v:=?vv26) rfl (by kernel_rfl) (by kernel_rfl) (by kernel_rfl) (fun _ _ _ h=>h) (Or.inl ⟨by rfl,?hy26⟩) (by assumption) ?rest26
   case hy26=>(intro w' hSw;(try dsimp only at hSw);go_simp;first | done | with_reducible rfl)
   simp only[Act.put];refine wpAnyH_take (i:=2) (v:=?vv27) rfl (by kernel_rfl) (by kernel_rfl) (by kernel_rfl) (fun _ _ _ h=>h) (Or.inl ⟨by rfl,?hy27⟩) (by assumption) ?rest27
   case hy27=>(intro w' hSw;(try dsimp only at hSw);go_simp;first | done | with_reducible rfl)
   simp only[Act.put];refine wpAnyH_take (i:=3) (v:=?vv28) rfl (by kernel_rfl) (by kernel_rfl) (by kernel_rfl) (fun _ _ _ h=>h) (Or.inl ⟨by rfl,?hy28⟩) (by assumption) ?rest28
   case hy28=>(intro w' hSw;(try dsimp only at hSw);go_simp;first | done | with_reducible rfl)
   simp only[Act.put];refine wpAnyH_take (i:=4) (v:=?vv29) rfl (by kernel_rfl) (by kernel_rfl) (by kernel_rfl) (fun _ _ _ h=>h) (Or.inl ⟨by rfl,?hy29⟩) (by assumption) ?rest29
   case hy29=>(intro w' hSw;(try dsimp only at hSw);go_simp;first | done | with_reducible rfl)
   simp only[Act.put];refine wpAnyH_take (i:=5) (v:=?vv30) rfl (by kernel_rfl) (by kernel_rfl) (by kernel_rfl) (fun _ _ _ h=>h) (Or.inl ⟨by rfl,?hy30⟩) (by assumption) ?rest30
   case hy30=>(intro w' hSw;(try dsimp only at hSw);go_simp;first | done | with_reducible rfl)
   simp only[Act.put];refine wpAnyH_take (i:=6) (v:=?vv31) rfl (by kernel_rfl) (by kernel_rfl) (by kernel_rfl) (fun _ _ _ h=>h) (Or.inl ⟨by rfl,?hy31⟩) (by assumption) ?rest31
   case hy31=>(intro w' hSw;(try dsimp only at hSw);go_simp;first | done | with_reducible rfl)
   simp only[Act.put];refine wpAnyH_take (i:=7) (v:=?vv32) rfl (by kernel_rfl) (by kernel_rfl) (by kernel_rfl) (fun _ _ _ h=>h) (Or.inl ⟨by rfl,?hy32⟩) (by assumption) ?rest32
   case hy32=>(intro w' hSw;(try dsimp only at hSw);go_simp;first | done | with_reducible rfl)
   simp only[Act.put];refine wpAnyH_take (i:=8) (v:=?vv33) rfl (by kernel_rfl) (by kernel_rfl) (by kernel_rfl) (fun _ _ _ h=>h) (Or.inl ⟨by rfl,?hy33⟩) (by assumption) ?rest33
   case hy33=>(intro w' hSw;(try dsimp only at hSw);go_simp;first | done | with_reducible rfl)
   simp only[Act.put];refine wpAnyH_take (i:=9) (v:=?vv34) rfl (by kernel_rfl) (by kernel_rfl) (by kernel_rfl) (fun _ _ _ h=>h) (Or.inl ⟨by rfl,?hy34⟩) (by assumption) ?rest34
   case hy34=>(intro w' hSw;(try dsimp only at hSw);go_simp;first | done | with_reducible rfl)
   simp only[Act.put];refine wpAnyH_ready (rs:=[10,12]) (by kernel_rfl) (by simp) ?_;refine .cons rfl (fun K hK=>?_) (.cons rfl (fun K hK=>?_) .nil)
   ·go_simp;go_at_call 45;refine(hWd.out _ (held3' (by assumption))).mono ?_;rintro e wc ⟨vc,rfl,hRc,hBc⟩;have hKc:=held_any (held3' (W0:=w1) (by assumption)) hBc;obtain⟨pa,ka,ca,rfl,hRc'⟩:=id hRc;clear hRc';go_wp2_with fail;refine hK.out _ _ ?_ (fun hHeld=>?_)
    ·(try dsimp only);(first | assumption | exact HS.out _ (Br _ _).drew | (exact HS.out _ (by assumption)) | (exact HS.out _ (held3_alloc (by assumption) _)) | (exact HS.out _ (held3_alloc' (by assumption) _)) | (exact HS.out _ (below_al1 (by assumption) _)) | (exact HS.out _ (below_set3 (by assumption) (Lr _))))
    clear hK K;(try simp only[Act.put,Sa,Sz,Sc]);refine wpAnyH_take (i:=11) (v:=?vv35) rfl (by kernel_rfl) (by kernel_rfl) (by kernel_rfl) (fun _ _ _ h=>h) (Or.inl ⟨by rfl,?hy35⟩) (by assumption) ?rest35
    case hy35=>(intro w' hSw;(try dsimp only at hSw);go_simp;first | done | with_reducible rfl)
    simp only[Act.put,Sa];refine wpAnyH_ready (rs:=[12]) (by kernel_rfl) (by simp) ?_;refine .cons rfl (fun K hK=>?_) .nil;go_simp;refine hK.out _ _ ?_ (fun hHeld=>?_)
    ·(try dsimp only);(first | assumption | exact HS.out _ (Br _ _).drew | (exact HS.out _ (by assumption)) | (exact HS.out _ (held3_alloc (by assumption) _)) | (exact HS.out _ (held3_alloc' (by assumption) _)) | (exact HS.out _ (below_al1 (by assumption) _)) | (exact HS.out _ (below_set3 (by assumption) (Lr _))))
    clear hK K;(try simp only[Act.put,Sa,Sz,Sc]);refine wpAnyH_ready (rs:=[13]) (by kernel_rfl) (by simp) ?_;refine .cons rfl (fun K hK=>?_) .nil;go_simp;refine hK.out _ _ ?_ (fun hHeld=>?_)
    ·(try dsimp only);(first | assumption | exact HS.out _ (Br _ _).drew | (exact HS.out _ (by assumption)) | (exact HS.out _ (held3_alloc (by assumption) _)) | (exact HS.out _ (held3_alloc' (by assumption) _)) | (exact HS.out _ (below_al1 (by assumption) _)) | (exact HS.out _ (below_set3 (by assumption) (Lr _))))
    clear hK K;(try simp only[Act.put,Sa,Sz,Sc]);refine wpAnyH_done (by kernel_rfl) (NoPanic.normal ?_) _;go_wp2_with fail
    go_meet
    exact⟨wc.heap.size,pa,ka,ca,rfl,Var3.alloc wc 24 trivial trivial trivial,hRc.alloc _,below_al1 hKc _,hKc.size⟩
   ·go_simp;refine hK.out _ _ ?_ (fun hHeld=>?_)
    ·(try dsimp only);(first | assumption | exact HS.out _ (Br _ _).drew | (exact HS.out _ (by assumption)) | (exact HS.out _ (held3_alloc (by assumption) _)) | (exact HS.out _ (held3_alloc' (by assumption) _)) | (exact HS.out _ (below_al1 (by assumption) _)) | (exact HS.out _ (below_set3 (by assumption) (Lr _))))
    clear hK K;(try simp only[Act.put,Sa,Sz,Sc]);refine wpAnyH_ready (rs:=[10]) (by kernel_rfl) (by simp) ?_;refine .cons rfl (fun K hK=>?_) .nil;go_simp;go_at_call 45;refine(hWd.out _ (held3' (by assumption))).mono ?_;rintro e wc ⟨vc,rfl,hRc,hBc⟩;have hKc:=held_any (held3' (W0:=w1) (by assumption)) hBc;obtain⟨pa,ka,ca,rfl,hRc'⟩:=id hRc;clear hRc';have hVn:=((Var3.alloc w1 (x:=.bool false) (y:=.slice none 0 0) (z:=.slice none 0 0) 24 trivial trivial trivial).below (Br _ _).drew).below hBc;obtain⟨x0,x1,x2,y0,y1,y2⟩:=id hVn.cells;go_wp2_with fail;refine hK.out _ _ ?_ (fun hHeld=>?_)
    ·(try dsimp only);(first | assumption | exact HS.out _ (Br _ _).drew | (exact HS.out _ (by assumption)) | (exact HS.out _ (held3_alloc (by assumption) _)) | (exact HS.out _ (held3_alloc' (by assumption) _)) | (exact HS.out _ (below_al1 (by assumption) _)) | (exact HS.out _ (below_set3 (by assumption) (Lr _))))
    clear hK K;(try simp only[Act.put,Sa,Sz,Sc]);refine wpAnyH_take (i:=11) (v:=?vv36) rfl (by kernel_rfl) (by kernel_rfl) (by kernel_rfl) (fun _ _ _ h=>h) (Or.inl ⟨by rfl,?hy36⟩) (by assumption) ?rest36
    case hy36=>(intro w' hSw;(try dsimp only at hSw);go_simp;first | done | with_reducible rfl)
    simp only[Act.put,Sa];refine wpAnyH_ready (rs:=[13]) (by kernel_rfl) (by simp) ?_;refine .cons rfl (fun K hK=>?_) .nil;go_simp;refine hK.out _ _ ?_ (fun hHeld=>?_)
    ·(try dsimp only);(first | assumption | exact HS.out _ (Br _ _).drew | (exact HS.out _ (by assumption)) | (exact HS.out _ (held3_alloc (by assumption) _)) | (exact HS.out _ (held3_alloc' (by assumption) _)) | (exact HS.out _ (below_al1 (by assumption) _)) | (exact HS.out _ (below_set3 (by assumption) (Lr _))))
    clear hK K;(try simp only[Act.put,Sa,Sz,Sc]);refine wpAnyH_done (by kernel_rfl) (NoPanic.normal ?_) _;go_wp2_with fail
    go_meet
    exact⟨w1.heap.size,pa,ka,ca,rfl,hVn.store trivial trivial trivial,hRc.store3 hVn _ _ _,below_set3 hKc (Lr _),Lr _⟩
 case rest=>
   obtain⟨X,pa,ka,ca,rfl,hVX,hRX,hKX,hXX⟩:=hcut;clear hcase hWd;obtain⟨b0,b1,b2,_⟩:=HS.out wc hKX
   have HP2:Hid ((Rep W32 wc (.slice pa ka ca) n∧Rep B16 wc (.slice p2 k2 c2) d)∧Var3 wc X (.bool sg) (.slice pa ka ca) (.slice none 0 0)∧Var3 wc (w.heap.size+1) (.bool false) (.slice none 0 0) (.slice none 0 0)∧Bw w wc):=
    hid ⟨⟨hRX,HP.out.1.2.below hKX⟩,hVX,HP.out.2.1.2.below hKX,HP.out.2.2.trans (hKX.mono HP.out.2.2.size)⟩
   have hne:w.heap.size+1 < X:=by obtain⟨_,h0,_⟩:=HP.out.2.1.2;exact Nat.lt_of_lt_of_le (Array.getElem?_eq_some_iff.1 h0).1 hXX
   have hWh:=hid (whole_any (.agg #[.bool s,.slice p1 k1 c1,.slice p2 k2 c2]) s n d wc ⟨_,_,rfl,HP.out.1.1.below hKX,HP.out.1.2.below hKX⟩)
   have hCell:Hid (∀W,Bw wc W→W.cell? ⟨w.heap.size,2,none⟩=some (.slice p2 k2 c2)):=hid fun W hb=>((HP.out.2.1.1.below hKX).below hb).cells.2.2.1
   clear HP HS hRX hKX hVX hXX;have hOne:=hWh.out;clear hWh
   by_cases h1:d≤1
   ·rw[decide_eq_true h1] at hOne;have H1:=hid h1;clear h1;go_wp2_with fail;refine hOne.mono ?_;rintro e w4 ⟨rfl,hB4⟩;clear hOne;obtain⟨x0,x1,x2,_⟩:=(HP2.out.2.1.below hB4).cells;obtain⟨z0,z1,z2,r0,r1,r2⟩:=(HP2.out.2.2.1.below hB4).cells;go_wp2_with fail;have hV:=HP2.out.2.2.1.below hB4;exact rRat_ret rfl (hV.store trivial trivial trivial) ⟨_,rfl,⟨_,_,rfl,(HP2.out.1.1.below hB4).store3 hV _ _ _,by rw[show den0' d=0 from if_pos H1.out];exact Rep.nil⟩,below_set3 (HP2.out.2.2.2.trans (hB4.mono HP2.out.2.2.2.size)) (Nat.le_succ _)⟩
   ·rw[decide_eq_false h1] at hOne;have H1:=hid h1;clear h1;go_wp2_with fail;refine hOne.mono ?_;rintro e w2 ⟨rfl,hB2⟩;clear hOne b0 b1 b2;have hL2:=hid (list_any _ d w2 (HP2.out.1.2.below hB2) HN.out.2)
    have HP3:Hid (Rep W32 w2 (.slice pa ka ca) n∧Var3 w2 X (.bool sg) (.slice pa ka ca) (.slice none 0 0)∧Var3 w2 (w.heap.size+1) (.bool false) (.slice none 0 0) (.slice none 0 0)∧Bw w w2):=
     hid ⟨HP2.out.1.1.below hB2,HP2.out.2.1.below hB2,HP2.out.2.2.1.below hB2,HP2.out.2.2.2.trans (hB2.mono HP2.out.2.2.2.size)⟩
    have b2:=hCell.out w2 hB2;clear HP2 hB2;go_upto_region 4 with fail;refine hL2.out.mono ?_;rintro e w3 ⟨vq,rfl,hRq,hBq⟩;clear hL2;obtain⟨pb,kb,cb,rfl,_⟩:=id hRq;obtain⟨x0,x1,x2,m0,m1,m2⟩:=(HP3.out.2.1.below hBq).cells;go_upto_region 4 with fail
    have HP4:Hid ((Rep W32 (w3.setCell ⟨X,2,none⟩ (.slice pb kb cb)) (.slice pa ka ca) n∧Rep W32 (w3.setCell ⟨X,2,none⟩ (.slice pb kb cb)) (.slice pb kb cb) d)∧Var3 (w3.setCell ⟨X,2,none⟩ (.slice pb kb cb)) X (.bool sg) (.slice pa ka ca) (.slice pb kb cb)∧Var3 (w3.setCell ⟨X,2,none⟩ (.slice pb kb cb)) (w.heap.size+1) (.bool false) (.slice none 0 0) (.slice none 0 0)∧Bw w (w3.setCell ⟨X,2,none⟩ (.slice pb kb cb))):=
     hid ⟨⟨(HP3.out.1.below hBq).set1 (HP3.out.2.1.below hBq) _ _,hRq.set1 (HP3.out.2.1.below hBq) _ _⟩,(HP3.out.2.1.below hBq).set2 trivial,(HP3.out.2.2.1.below hBq).other1 (Nat.ne_of_lt hne) _ _,(HP3.out.2.2.2.trans (hBq.mono HP3.out.2.2.2.size)).setCell (by show w.heap.size≤X;omega) _⟩
    clear hRq hBq x0 x1 x2 m0 m1 m2 HP3;generalize w3.setCell ⟨X,2,none⟩ (.slice pb kb cb)=W4 at *;obtain⟨x0,x1,x2,_⟩:=HP4.out.2.1.cells;obtain⟨z0,z1,z2,r0,r1,r2⟩:=HP4.out.2.2.1.cells;go_wp2_with fail;exact rRat_ret rfl (HP4.out.2.2.1.store trivial trivial trivial) ⟨_,rfl,⟨_,_,rfl,HP4.out.1.1.store3 HP4.out.2.2.1 _ _ _,by rw[show den0' d=d from if_neg H1.out];exact HP4.out.1.2.store3 HP4.out.2.2.1 _ _ _⟩,below_set3 HP4.out.2.2.2 (Nat.le_succ _)⟩
theorem FRep.arep{w:World}{v:Value}{s:Bool}{n d:Nat}(h:FRep w v s n d)(hn:n < W32 ^ 1000000000)(hd:d < W32 ^ 1000000000):ARep w v s n d:=by
 obtain⟨vn,vd,hv,h1,h2⟩:=h;exact⟨vn,vd,hv,h1.raw hn,h2.raw hd⟩
def Canon (s:Bool) (n d:Nat):Prop:=mkq s n (den1 d)=(s,n,den1 d)∧d≠1
theorem Canon.sign{s:Bool}{n d:Nat}(h:Canon s n d):(s && decide (n≠0))=s:=by
 have h1:=h.1
 by_cases h0:n=0
 ·unfold mkq at h1;rw[if_pos (.inl h0)] at h1
  injection h1 with h2
  subst h2;rfl
 ·simp [h0]
theorem Canon.den{s:Bool}{n d:Nat}(h:Canon s n d):den0' (den1 d)=d:=by
 have h1:=h.2;unfold den0' den1
 by_cases h0:d=0
 ·subst h0;rfl
 ·rw[if_neg h0,if_neg (by omega)]
theorem lt_W_B'{x a:Nat}(h:x < W32 ^ a)(ha:a≤400000000):x < B16 ^ 1000000000:=by
 rw[pow_two_k] at h;exact lt_16 h (by omega)
theorem lt_W_B{x:Nat}(h:x < W32 ^ 100000000):x < B16 ^ 1000000000:=lt_W_B' h (by omega)
theorem Canonical_any(v:Value)(s:Bool)(n d:Nat)(w:World)(h:FRep w v s n d)(hn:n < W32 ^ 100000000)(hd:d < W32 ^ 100000000)(hC:Canon s n d)(hM:MakeOK n (den1 d)):
  Calls Tryz.prog 70 #[v] w fun e w'=>e=.returned (.bool true)∧Bw w w':=by
 have hA:=hid (h.arep (lt_big hn (by omega)) (lt_big hd (by omega)));have hF0:=hid h;obtain⟨vn,vd,rfl,⟨p1,k1,c1,rfl,hc1,hl1,hs1⟩,⟨p2,k2,c2,rfl,hc2,hl2,hs2⟩⟩:=h;have hb1:=hl1.le W32_pos hn;have hb2:=hl2.le W32_pos hd;have HQ:=hid (fun (W:World) (hW:ARep W (.agg #[.bool s,.slice p1 k1 c1,.slice p2 k2 c2]) s n d)=>rOf_any _ s n d W hW hM)
 have HT:Hid (∀(W:World) (v':Value),QNorm W v' (mkq s n (den1 d))→Calls Tryz.prog 19 #[v'] W fun e w'=>∃sg pa ka ca pb kb cb,e=.returned (.agg #[.bool sg,.slice pa ka ca,.slice pb kb cb])∧Hid (FNorm w' (.agg #[.bool sg,.slice pa ka ca,.slice pb kb cb]) (s,n,d))∧Bw W w'):=by
  refine hid fun W v' hv'=>fopen (t:=(s,n,d)) ?_
  rw[hC.1] at hv'
  have hdB:den1 d < B16 ^ 1000000000:=by
   unfold den1
   split
   ·exact lt_16 (a:=1) (by decide) (by omega)
   ·exact lt_W_B hd
  have:=rRat_any v' s n (den1 d) W hv' (lt_W_B hn) hdB;rw[hC.sign,hC.den] at this;exact this
 have Hs:=hid (Ai hs1 hs2);have Hl:=hid (Ai hl1 hl2);clear hn hd hC hM hs1 hs2 hl1 hl2;go_enter Tryz.func70,Tryz.ntmps70;go_upto_region 1 with fail;have hK0:=(Br w.heap.size w).alloc (Lr _) (.cells #[.bool s,.slice p1 k1 c1,.slice p2 k2 c2] 24);have hV0:=Var3.alloc w (x:=.bool s) (y:=.slice p1 k1 c1) (z:=.slice p2 k2 c2) 24 trivial trivial trivial;generalize w.alloc (.cells #[.bool s,.slice p1 k1 c1,.slice p2 k2 c2] 24)=W0 at *;obtain⟨x0,x1,x2,_⟩:=id hV0.cells;have hof:=hid (HQ.out W0 (hA.out.below hK0));have HV:=hid (Ai hV0 hK0);clear hK0 hV0;go_wp2_with fail;refine hof.out.mono ?_;rintro e w1 ⟨v1,rfl,hR1,hB1⟩;clear hof x0 x1 x2;go_wp2_with fail;refine(HT.out w1 v1 hR1).mono ?_;rintro e w2 ⟨sg,pa,ka,ca,pb,kb,cb,rfl,hF2,hB2⟩;have hV2:=(HV.out.1.below hB1).below hB2;have hK2:=HV.out.2.trans ((hB1.mono HV.out.2.size).trans (hB2.mono (Nat.le_trans HV.out.2.size hB1.size)));clear hB1 hB2 hR1 HV;obtain⟨vn',vd',hv',⟨pa',ka',ca',rfl,_,hla,hsa⟩,⟨pb',kb',cb',rfl,_,hlb,hsb⟩⟩:=hF2.out;simp only[Value.agg.injEq,Array.mk.injEq,List.cons.injEq,Value.bool.injEq,Value.slice.injEq,and_true] at hv';obtain⟨rfl,⟨rfl,rfl,rfl⟩,⟨rfl,rfl,rfl⟩⟩:=hv';obtain rfl:=hla.unique W32_one Hl.out.1;obtain rfl:=hlb.unique W32_one Hl.out.2;have hal:=(Br w2.heap.size w2).alloc (Lr _) (.cells #[.bool sg,.slice pa ka ca,.slice pb kb cb] 24);have hVX:=Var3.alloc w2 (x:=.bool sg) (y:=.slice pa ka ca) (z:=.slice pb kb cb) 24 trivial trivial trivial;have HP:=hid (Ai (Ai ((Hs.out.1.below hK2).below hal) ((Hs.out.2.below hK2).below hal)) (Ai (Ai (hsa.below hal) (hsb.below hal)) (hK2.trans (hal.mono hK2.size))));have hV3:=hV2.below hal;clear hV2 hK2 hF2 hla hsa hlb hsb Hs Hl hA hF0 HQ HT hal;go_upto_region 2 with fail;generalize w2.alloc (.cells #[.bool sg,.slice pa ka ca,.slice pb kb cb] 24)=W3 at *;generalize w2.heap.size=X at *;obtain⟨x0,x1,x2,_⟩:=id hV3.cells;obtain⟨y0,y1,y2,_⟩:=id hVX.cells
 have hbs:(sg != sg)=false:=by cases sg<;>rfl
 have hba:((ka:Int) != (ka:Int))=false:=by simp
 have hbb:((kb:Int) != (kb:Int))=false:=by simp
 go_wp2_with fail
 go_loopw [35] (fun i wr=>∃k q:Nat,k≤ka∧i=.int .i64 k∧wr=W3.drewN q) (fun i _=>ka - (intOf i).toNat)
 case atStart=>exact⟨0,0,by omega,rfl,rfl⟩
 case round=>
  obtain⟨k,q,hk,rfl,rfl⟩:=hrel
  by_cases hlt:k < ka
  ·obtain⟨b1,o1,rfl,hca⟩:=HP.out.1.1 (by omega);obtain⟨b2,o2,rfl,hcb⟩:=HP.out.2.1.1 (by omega);have hc1':=hca k hlt;have hc2':=hcb k hlt;clear hca hcb;generalize dg W32 n k=dd at *
   have hdd:((dd:Int) != (dd:Int))=false:=by simp
   go_wp2_with fail
   go_quiet (fail)
   go_wp2_with fail
   go_roundw
   case rel=>exact⟨k+1,_,by omega,by go_num,by first | rfl | rw[World.drewN_drewN]⟩
   case measure=>simp [intOf];omega
  ·have hk':k=ka:=by omega
   subst hk';go_wp2_with fail
   go_loopw [53] (fun i wr=>∃j q:Nat,j≤kb∧i=.int .i64 j∧wr=W3.drewN q) (fun i _=>kb - (intOf i).toNat)
   case atStart=>exact⟨0,q,by omega,rfl,rfl⟩
   case round=>
    obtain⟨j,q',hj,rfl,rfl⟩:=hrel
    by_cases hlt2:j < kb
    ·obtain⟨b1,o1,rfl,hca⟩:=HP.out.1.2 (by omega);obtain⟨b2,o2,rfl,hcb⟩:=HP.out.2.1.2 (by omega);have hc1':=hca j hlt2;have hc2':=hcb j hlt2;clear hca hcb;generalize dg W32 d j=dd at *
     have hdd:((dd:Int) != (dd:Int))=false:=by simp
     go_wp2_with fail
     go_quiet (fail)
     go_wp2_with fail
     go_roundw
     case rel=>exact⟨j+1,_,by omega,by go_num,by first | rfl | rw[World.drewN_drewN]⟩
     case measure=>simp [intOf];omega
    ·have hj':j=kb:=by omega
     subst hj';go_wp2_with fail
     go_ret
     exact⟨rfl,below_drewN HP.out.2.2 _⟩
theorem lt_16_4{x a:Nat}(h:x < W32 ^ a)(ha:a≤200000000):x < B16 ^ 400000000:=by
 rw[pow_two_k] at h
 have h2:2*a≤400000000:=by omega
 generalize 400000000=b at *;exact Nat.lt_of_lt_of_le h (Nat.pow_le_pow_right B16_pos h2)
def SameQ (s:Bool) (n d:Nat) (s':Bool) (n' d':Nat):Prop:=(n=0∧n'=0)∨(n≠0∧n'≠0∧s=s'∧n*den1 d'=n'*den1 d)
end Go.Proofs.YteblinkehldghaaGreatDoor
