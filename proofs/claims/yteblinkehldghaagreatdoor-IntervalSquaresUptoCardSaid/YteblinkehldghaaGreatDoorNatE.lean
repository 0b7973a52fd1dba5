/- The natural numbers of the program: IsZero, IsOne, FromUint, comparisons. -/
import Derived.Test.YteblinkehldghaaGreatDoorNatB
import Derived.Deep.QuietTactic
import Derived.BigQuiet
set_option maxHeartbeats 1000000
set_option maxRecDepth 100000
namespace Go.Proofs.YteblinkehldghaaGreatDoor
open Go.RowKit Dg
open Nat renaming le_refl→Lr
theorem IsZero_any(v:Value)(x:Nat)(w:World)(h:Rep W32 w v x):
  Calls Tryz.prog 131 #[v] w fun e w'=>e=.returned (.bool (decide (x=0)))∧w=w':=by
 obtain⟨p,n,cap,rfl,_,hl,_⟩:=h;have hz:=hl.zero_iff W32_pos;rw[show decide (x=0)=((n:Int) == 0) by rw[Bool.eq_iff_iff];simp only[decide_eq_true_eq,beq_iff_eq];omega];clear hl hz;go_enter Tryz.func131,Tryz.ntmps131
 go_wp2
 go_ret
 exact⟨rfl,rfl⟩
theorem one_of_len{x n:Nat}(hl:Len W32 x n):x=1↔n=1∧dg W32 x 0=1:=by
 constructor
 ·intro h;subst h;have h1:Len W32 1 1:=⟨by decide,fun _=>by decide⟩;exact⟨hl.unique W32_one h1,by decide⟩
 ·rintro⟨rfl,h⟩;have:=hl.1;rw[dg_top (i:=0) this] at h;simpa using h
theorem IsOne_any(v:Value)(x:Nat)(w:World)(h:Rep W32 w v x):
  Calls Tryz.prog 155 #[v] w fun e w'=>e=.returned (.bool (decide (x=1)))∧w=w':=by
 obtain⟨p,n,cap,rfl,_,hl,hs⟩:=h;have ho:=one_of_len hl
 by_cases h1:n=1
 ·subst h1;obtain⟨b,off,rfl,hc⟩:=hs (by omega);have hc0:w.cell? ⟨b,off,none⟩=some (.int .u32 (dg W32 x 0:Nat)):=hc 0 (by omega);rw[show decide (x=1)=(((dg W32 x 0:Nat):Int) == 1) by rw[Bool.eq_iff_iff];simp only[decide_eq_true_eq,beq_iff_eq];omega];generalize dg W32 x 0=d at *;clear hl ho hs hc;go_enter Tryz.func155,Tryz.ntmps155
  go_wp2
  go_ret
  exact⟨rfl,rfl⟩
 ·rw[show decide (x=1)=false by simp;omega]
  have hb:((n:Int) == 1)=false:=by simp;omega
  clear hl ho hs;go_enter Tryz.func155,Tryz.ntmps155
  go_wp2
  go_ret
  exact⟨rfl,rfl⟩
def cmp3 (a b:Nat):Int:=if a < b then -1 else if b < a then 1 else 0
theorem cmp3_lt{a b:Nat}(h:a < b):cmp3 a b=-1:=by simp [cmp3,h]
theorem cmp3_gt{a b:Nat}(h:b < a):cmp3 a b=1:=by simp [cmp3,h,show ¬a < b by omega]
theorem cmp3_eq(a:Nat):cmp3 a a=0:=by simp [cmp3]
theorem cmpInt_any(a b:Nat)(w:World):
  Calls Tryz.prog 134 #[.int .i64 a,.int .i64 b] w fun e w'=>e=.returned (.int .i64 (cmp3 a b))∧w=w':=by
 rcases Nat.lt_trichotomy a b with h | h | h
 ·rw[cmp3_lt h];go_enter Tryz.func134,Tryz.ntmps134
  go_wp2
  go_ret
  exact⟨rfl,rfl⟩
 ·subst h;rw[cmp3_eq];go_enter Tryz.func134,Tryz.ntmps134
  go_wp2
  go_ret
  exact⟨rfl,rfl⟩
 ·rw[cmp3_gt h];go_enter Tryz.func134,Tryz.ntmps134
  go_wp2
  go_ret
  exact⟨rfl,rfl⟩
theorem cmpU32_any(a b:Nat)(w:World):
  Calls Tryz.prog 174 #[.int .u32 a,.int .u32 b] w fun e w'=>e=.returned (.int .i64 (cmp3 a b))∧w=w':=by
 rcases Nat.lt_trichotomy a b with h | h | h
 ·rw[cmp3_lt h];go_enter Tryz.func174,Tryz.ntmps174
  go_wp2
  go_ret
  exact⟨rfl,rfl⟩
 ·subst h;rw[cmp3_eq];go_enter Tryz.func174,Tryz.ntmps174
  go_wp2
  go_ret
  exact⟨rfl,rfl⟩
 ·rw[cmp3_gt h];go_enter Tryz.func174,Tryz.ntmps174
  go_wp2
  go_ret
  exact⟨rfl,rfl⟩
theorem FromUint_any(x:Nat)(w:World)(hx:x < W32 ^ 2):
  Calls Tryz.prog 148 #[.int .u64 x] w fun e w'=>∃v,e=.returned v∧Rep W32 w' v x∧Bw w w':=by
 have hx':x < 18446744073709551616:=by rw[W32_val] at hx;omega
 have Hx:Hid (x < W32 ^ 2):=hx;clear hx;go_enter Tryz.func148,Tryz.ntmps148
 have e0:dg W32 x 0=x % 4294967296:=by simp [dg,W32_val]
 have e1:dg W32 x 1=x / 4294967296:=by
  simp only[dg,W32_val,Nat.pow_one];omega
 have hs:∀w:World,Slc (w.alloc (.cells #[.int .u32 ((x:Int) % 4294967296),.int .u32 ((x:Int) / 4294967296)] 65)) (some ⟨w.heap.size,0,none⟩) 2 (dg W32 x):=fun w _=>by
  refine⟨_,_,rfl,fun j hj=>?_⟩;rw[World.cell?_alloc_at _ _ _ _ rfl]
  rcases Nat.lt_or_ge j 1 with h | h
  ·obtain rfl:j=0:=by omega
   simp [e0]
  ·obtain rfl:j=1:=by omega
   simp [e1]
 have HS:Hid (∀w:World,Slc (w.alloc (.cells #[.int .u32 ((x:Int) % 4294967296),.int .u32 ((x:Int) / 4294967296)] 65)) (some ⟨w.heap.size,0,none⟩) 2 (dg W32 x)):=hs;clear e0 e1 hs;go_wp2_with fail;refine(Of_any _ _ _ x _ (by omega) (Lr _) Hx.out (HS.out w)).mono ?_;rintro e w' ⟨m,rfl,hm,hlen,rfl⟩;go_wp2_with fail
 go_ret
 exact⟨_,rfl,⟨_,_,_,rfl,hm,hlen,(HS.out w).take (by omega)⟩,(Below.refl _ _).alloc (Lr _) _⟩
theorem Tryz.mk(N:Nat)(hN:N≤4000000000)(w:World):(Instr.makeSlice 22 (.int .i64 (N:Int)) (.int .i64 (N:Int))).run Tryz.prog w=.ok (.slice (some ⟨w.heap.size,0,none⟩) N N) (w.alloc (.cells (madeCells #[.int .u32 0] N) 65)):=
 run_make_row' (P:=Tryz.prog) 22 65 (.int .u32 0) 4 Tryz.underlying22 Tryz.infoU32 rfl .i64 .i64 N (by omega) (by omega) w
theorem u64_mod(n:Int):IntKind.u64.wrap n=n % 18446744073709551616:=by
 simp [IntKind.wrap,IntKind.bits,IntKind.signed]
theorem u64_borrow(a b c:Nat)(ha:a < 4294967296)(hb:b < 4294967296)(hc:c≤1)(h:a < b+c):
  IntKind.u64.wrap (IntKind.u64.wrap ((a:Int) - (b:Int)) - (c:Int))=((18446744073709551616+a - b - c:Nat):Int):=by
 rw[u64_mod,u64_mod];omega
theorem Sub_any(va vb:Value)(x y:Nat)(w:World)(ha:Rep W32 w va x)(hb:Rep W32 w vb y)(hx:x < W32 ^ 1000000000)(hyx:y≤x):
  Calls Tryz.prog 171 #[va,vb] w fun e w'=>∃v,e=.returned v∧Rep W32 w' v (x - y)∧Bw w w':=by
 obtain⟨pa,na,ca,rfl,hca,hla,hsa⟩:=ha;obtain⟨pb,nb,cb,rfl,hcb,hlb,hsb⟩:=hb;have hna:=hla.le W32_pos hx;have hnb:=hlb.le W32_pos (Nat.lt_of_le_of_lt hyx hx);clear hx;have hmk:=Tryz.mk na (by omega);go_enter Tryz.func171,Tryz.ntmps171
 go_wp2
 clear hmk
 go_loopw [6,15] (fun c i wr=>∃k X cc:Nat,k≤na∧i=.int .i64 k∧c=.int .u64 cc∧cc≤1∧X < W32 ^ k∧X+y % W32 ^ k=x % W32 ^ k+W32 ^ k*cc∧Mk W32 w wr na X) (fun _ i _=>na - (intOf i).toNat)
 case atStart=>exact⟨0,0,0,by omega,rfl,rfl,by omega,by simp,by simp [Nat.mod_one],Mk.start _ _ _⟩
 case round=>
  obtain⟨k,X,c,hk,rfl,rfl,hc,hX,hXc,hM⟩:=hrel;have hsa':=hsa.below hM.bel;have hsb':=hsb.below hM.bel;have Hxc:Hid (X+y % W32 ^ k=x % W32 ^ k+W32 ^ k*c):=hXc;have HX:Hid (X < W32 ^ k):=hX;clear hXc hX
  by_cases hlt:k < na
  ·have hyb:=hlb.1;have hwb:=word_any pb nb cb y k wr (by omega) (by omega) hyb hsb';obtain⟨b0,o0,rfl,hca0⟩:=hsa' (by omega);have hca1:=hca0 k hlt;have hda:=dg_u32 x k;have hdb:=dg_u32 y k
   have hround:=fun s c'=>sub_round (s:=s) (c':=c') Hxc.out
   generalize dg W32 x k=a at *;generalize dg W32 y k=b at *;have HR:Hid (∀s c',s+b+c=a+W32*c'→X+W32 ^ k*s+y % W32 ^ (k+1)=x % W32 ^ (k+1)+W32 ^ (k+1)*c'):=hround;clear hround hyb hca0 hsa;have hcell:=hM.cell hlt;have hfrz:=hM.row.frozen k
   by_cases hbor:b+c≤a
   ·go_wp2_with fail;refine hwb.mono ?_;rintro e w' ⟨rfl,rfl⟩;clear hwb;go_wp2_with fail
    go_roundw
    case rel=>
     exact⟨k+1,X+W32 ^ k*(a - b - c),0,by omega,by go_num,congrArg (Value.int .u64) (by omega),by omega,add_lt HX.out (by rw[W32_val];omega),
      HR.out _ _ (by omega),hM.push W32_pos HX.out (by rw[W32_val];omega) (by omega)⟩
    case measure=>simp [intOf];omega
   ·have hw:=u64_borrow a b c (by omega) (by omega) hc (by omega);have Hw:Hid (IntKind.u64.wrap (IntKind.u64.wrap ((a:Int) - (b:Int)) - (c:Int))=((18446744073709551616+a - b - c:Nat):Int)):=hw;clear hw;go_wp2_with fail;refine hwb.mono ?_;rintro e w' ⟨rfl,rfl⟩;clear hwb;go_wp2_with fail
    go_roundw
    case rel=>
     rw[Hw.out]
     exact⟨k+1,X+W32 ^ k*(4294967296+a - b - c),1,by omega,by go_num,congrArg (Value.int .u64) (by omega),by omega,add_lt HX.out (by rw[W32_val];omega),
      HR.out _ _ (by rw[W32_val];omega),hM.push W32_pos HX.out (by rw[W32_val];omega) (by omega)⟩
    case measure=>simp [intOf];omega
  ·have hk':k=na:=by omega
   subst hk';have hX:X=x - y:=sub_end Hxc.out hla.1 hyx HX.out;have hXl:=HX.out;have hsl:=hM.slc;have hbel:=hM.bel;clear hM Hxc HX hsa hsb hsa' hsb';go_wp2_with fail;refine(Of_any _ _ _ X _ (by omega) (Lr _) hXl hsl).mono ?_;rintro e w' ⟨m,rfl,hm,hlen,rfl⟩;go_wp2_with fail
   go_ret
   rw[←hX];exact⟨_,rfl,⟨_,_,_,rfl,hm,hlen,hsl.take (by omega)⟩,hbel⟩
theorem mul_lt{x y a b:Nat}(hx:x < W32 ^ a)(hy:y < W32 ^ b):x*y < W32 ^ (a+b):=by
 rw[Nat.pow_add]
 rcases Nat.eq_zero_or_pos y with h | h
 ·subst h;exact Nat.mul_pos (Nat.pow_pos W32_pos) (Nat.pow_pos W32_pos)
 ·exact Nat.lt_of_lt_of_le (Nat.mul_lt_mul_of_pos_right hx h) (Nat.mul_le_mul_left _ (Nat.le_of_lt hy))
theorem Mul_any(va vb:Value)(x y:Nat)(w:World)(ha:Rep W32 w va x)(hb:Rep W32 w vb y)(hx:x < W32 ^ 1000000000)(hy:y < W32 ^ 1000000000):
  Calls Tryz.prog 133 #[va,vb] w fun e w'=>∃v,e=.returned v∧Rep W32 w' v (x*y)∧Bw w w':=by
 obtain⟨pa,na,ca,rfl,hca,hla,hsa⟩:=ha;obtain⟨pb,nb,cb,rfl,hcb,hlb,hsb⟩:=hb;have hna:=hla.le W32_pos hx;have hnb:=hlb.le W32_pos hy;clear hx hy;have hmk:=Tryz.mk (na+nb) (by omega);simp only[Int.natCast_add] at hmk;go_enter Tryz.func133,Tryz.ntmps133
 go_wp2
 clear hmk
 go_loopw [19] (fun i wr=>∃k X:Nat,k≤na∧i=.int .i64 k∧X=(x % W32 ^ k)*y∧Mk W32 w wr (na+nb) X) (fun i _=>na - (intOf i).toNat)
 case atStart=>exact⟨0,0,by omega,rfl,by simp [Nat.mod_one],Mk.start _ _ _⟩
 case round=>
  obtain⟨k,X,hk,rfl,hX,hM⟩:=hrel
  by_cases hlt:k < na
  ·have hsa':=hsa.below hM.bel;obtain⟨b0,o0,rfl,hca0⟩:=hsa' (by omega);have hca1:=hca0 k hlt;have hda:=dg_u32 x k
   have hXs:(x % W32 ^ (k+1))*y=X+W32 ^ k*(dg W32 x k*y):=by rw[mod_succ,hX,Nat.add_mul,Nat.mul_assoc]
   have HXs:Hid ((x % W32 ^ (k+1))*y=X+W32 ^ k*(dg W32 x k*y)):=hXs
   have hXlt:X < W32 ^ (k+nb):=by rw[hX];exact mul_lt (Nat.mod_lt _ (Nat.pow_pos W32_pos)) hlb.1
   have HXlt:Hid (X < W32 ^ (k+nb)):=hXlt;clear hX hXs hXlt hca0 hsa;generalize dg W32 x k=d at *
   by_cases hd:d=0
   ·subst hd
    have hX':X=(x % W32 ^ (k+1))*y:=by rw[HXs.out];simp
    have HX':Hid (X=(x % W32 ^ (k+1))*y):=hX';clear hX' HXs HXlt;go_wp2_with fail
    go_roundw
    case rel=>exact⟨k+1,X,by omega,by go_num,HX'.out,hM⟩
    case measure=>simp [intOf];omega
   ·have hdz:((d:Int) == 0)=false:=by simpa using hd
    go_wp2_with fail;clear hca1
    go_loopw [8,28] (fun c i wi=>∃j Z cc:Nat,j≤nb∧i=.int .i64 j∧c=.int .u64 cc∧cc < 4294967296∧Z+W32 ^ (k+j)*cc=X+W32 ^ k*(d*(y % W32 ^ j))∧(∀t,k+j≤t→dg W32 Z t=dg W32 X t)∧Mk W32 w wi (na+nb) Z) (fun _ i _=>nb - (intOf i).toNat)
    case atStart=>exact⟨0,X,0,by omega,rfl,rfl,by omega,by simp [Nat.mod_one],fun _ _=>rfl,hM⟩
    case round=>
     obtain⟨j,Z,c,hj,rfl,rfl,hc,hZ,hZt,hN⟩:=hrel;have HZ:Hid (Z+W32 ^ (k+j)*c=X+W32 ^ k*(d*(y % W32 ^ j))):=hZ;have HZt:Hid (∀t,k+j≤t→dg W32 Z t=dg W32 X t):=hZt;clear hZ hZt hM
     by_cases hjl:j < nb
     ·have hsb':=hsb.below hN.bel;obtain⟨b1,o1,rfl,hcb0⟩:=hsb' (by omega);have hcb1:=hcb0 j hjl;have hv:=dg_u32 y j;have hp:=dg_u32 Z (k+j);have hcell:=hN.cell (show k+j < na+nb by omega);have hfrz:=hN.row.frozen (k+j)
      have HR:Hid (∀s c',s+W32*c'=c+d*dg W32 y j+dg W32 Z (k+j)→setd W32 Z (k+j) s+W32 ^ (k+(j+1))*c'=X+W32 ^ k*(d*(y % W32 ^ (j+1)))):=fun s c' h=>mul_round HZ.out h
      clear hcb0 hsb;generalize dg W32 y j=v at *;generalize dg W32 Z (k+j)=p at *;have hdv0:(d*v:Nat)≤4294967295*4294967295:=Nat.mul_le_mul (by omega) (by omega)
      have hdv:(d:Int)*(v:Int)≤18446744065119617025:=by
                                                                    have:((d*v:Nat):Int)≤18446744065119617025:=by omega
                                                                    rwa [Int.natCast_mul] at this
      have hdv1:0≤(d:Int)*(v:Int):=Int.mul_nonneg (by omega) (by omega);go_wp2_with fail
      go_roundw
      case rel=>
       have hcast:(d:Int)*(v:Int)=((d*v:Nat):Int):=(Int.natCast_mul d v).symm;have hs:(c+d*v+p) % 4294967296 < W32:=Nat.mod_lt _ (by decide);refine⟨j+1,setd W32 Z (k+j) ((c+d*v+p) % 4294967296),(c+d*v+p) / 4294967296,by omega,by go_num,congrArg (Value.int .u64) (by rw[hcast];omega),by omega,HR.out _ _ (by rw[W32_val];omega),fun t ht=>?_,?_⟩
       ·rw[dg_setd W32_pos hs,if_neg (by omega)];exact HZt.out t (by omega)
       ·have:=hN.set W32_pos (k+j) _ hs;rw[show(((c+d*v+p) % 4294967296:Nat):Int)=((c:Int)+((d:Int)*v+p)) % 4294967296 by rw[hcast];omega] at this;exact this
      case measure=>simp [intOf];omega
     ·have hj':j=nb:=by omega
      subst hj';have hfrz:=hN.row.frozen (k+j);have hcell:=hN.cell (show k+j < na+j by omega)
      have h0:dg W32 Z (k+j)=0:=by rw[HZt.out _ (Lr _)];exact dg_zero HXlt.out
      have hZe:setd W32 Z (k+j) c=(x % W32 ^ (k+1))*y:=by
       have h1:=setd_val W32 Z (k+j) c;rw[h0,Nat.mul_zero,Nat.add_zero,HZ.out,Nat.mod_eq_of_lt hlb.1] at h1;rw[h1,HXs.out]
      have HZe:Hid (setd W32 Z (k+j) c=(x % W32 ^ (k+1))*y):=hZe;clear h0 hZe;go_wp2_with fail
      go_roundw
      case rel=>exact⟨k+1,setd W32 Z (k+j) c,by omega,by go_num,HZe.out,hN.set W32_pos (k+j) c hc⟩
      case measure=>simp [intOf];omega
  ·have hk':k=na:=by omega
   subst hk';rw[Nat.mod_eq_of_lt hla.1] at hX
   have hXl:X < W32 ^ (k+nb):=by rw[hX];exact mul_lt hla.1 hlb.1
   have hsl:=hM.slc;have hbel:=hM.bel;have HX:Hid (X=x*y):=hX;clear hM hX hsa hsb;go_wp2_with fail;refine(Of_any _ _ _ X _ (by omega) (Lr _) hXl hsl).mono ?_;rintro e w' ⟨m,rfl,hm,hlen,rfl⟩;go_wp2_with fail
   go_ret
   rw[←HX.out];exact⟨_,rfl,⟨_,_,_,rfl,hm,hlen,hsl.take (by omega)⟩,hbel⟩
end Go.Proofs.YteblinkehldghaaGreatDoor
