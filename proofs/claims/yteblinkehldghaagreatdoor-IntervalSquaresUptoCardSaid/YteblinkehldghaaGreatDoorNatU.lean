/- The natural numbers of the program: windows. -/
import Derived.Test.YteblinkehldghaaGreatDoorNatR
import Derived.Test.YteblinkehldghaaGreatDoorBase
set_option maxHeartbeats 4000000
set_option maxRecDepth 100000
namespace Go.Proofs.YteblinkehldghaaGreatDoor
open Go.RowKit Dg
open And renaming intro→Ai
theorem join_pow(c t:Nat)(ht:t < 32):(c*2 ^ (64 - t)) % 18446744073709551616=2 ^ (64 - t)*(c % 2 ^ t):=by
 have e:18446744073709551616=2 ^ (64 - t)*2 ^ t:=by rw[←Nat.pow_add,show 64 - t+t=64 by omega]
 rw[e,Nat.mul_comm c,Nat.mul_mod_mul_left]
theorem window_val{x s t:Nat}(ht:t < 32):
  bits .or .u64 (((dg W32 x s:Nat)+(dg W32 x (s+1):Nat)*4294967296:Int) / 2 ^ t) (IntKind.u64.wrap ((dg W32 x (s+2):Nat)*2 ^ (64 - t)))=((x / 2 ^ (32*s+t) % 18446744073709551616:Nat):Int):=by
 have h0:=dg_u32 x s;have h1:=dg_u32 x (s+1)
 have e:18446744073709551616=2 ^ (64 - t)*2 ^ t:=by rw[←Nat.pow_add,show 64 - t+t=64 by omega]
 have hW:=W32_mul t ht;have hp:0 < 2 ^ t:=Nat.pow_pos (by omega);have hp2:0 < 2 ^ (64 - t):=Nat.pow_pos (by omega)
 have e1:(2:Int) ^ t=((2 ^ t:Nat):Int):=by rw[Int.natCast_pow];rfl
 have e2:(2:Int) ^ (64 - t)=((2 ^ (64 - t):Nat):Int):=by rw[Int.natCast_pow];rfl
 have hA:(dg W32 x s+dg W32 x (s+1)*4294967296) / 2 ^ t < 2 ^ (64 - t):=by
  refine Nat.div_lt_of_lt_mul ?_;rw[Nat.mul_comm (2 ^ t),←e];omega
 have hx:x / 2 ^ (32*s+t)=(dg W32 x s+dg W32 x (s+1)*4294967296) / 2 ^ t+2 ^ (64 - t)*(x / W32 ^ (s+2)):=by
  rw[pow_split,←Nat.div_div_eq_div_mul,div_succ W32 x s,div_succ W32 x (s+1)]
  have e3:dg W32 x s+W32*(dg W32 x (s+1)+W32*(x / W32 ^ (s+1+1)))=(dg W32 x s+dg W32 x (s+1)*4294967296)+2 ^ t*(2 ^ (64 - t)*(x / W32 ^ (s+2))):=by
   show dg W32 x s+W32*(dg W32 x (s+1)+W32*(x / W32 ^ (s+2)))=_;generalize x / W32 ^ (s+2)=Z;generalize dg W32 x s=a;generalize dg W32 x (s+1)=b;rw[←Nat.mul_assoc (2 ^ t),Nat.mul_comm (2 ^ t),←e,W32_val];omega
  rw[e3,Nat.add_mul_div_left _ _ hp]
 have hc:(x / W32 ^ (s+2)) % 2 ^ t=dg W32 x (s+2) % 2 ^ t:=by
  unfold dg;rw[Nat.mod_mod_of_dvd _ ⟨2 ^ (32 - t),hW⟩]
 have hr:x / 2 ^ (32*s+t) % 18446744073709551616=(dg W32 x s+dg W32 x (s+1)*4294967296) / 2 ^ t+2 ^ (64 - t)*(dg W32 x (s+2) % 2 ^ t):=by
  rw[e,Nat.mod_mul,hx,Nat.add_mul_mod_self_left,Nat.mod_eq_of_lt hA,Nat.add_mul_div_left _ _ hp2,Nat.div_eq_of_lt hA,Nat.zero_add,hc]
 rw[hr]
 have f1:((dg W32 x s:Nat)+(dg W32 x (s+1):Nat)*4294967296:Int) / 2 ^ t=(((dg W32 x s+dg W32 x (s+1)*4294967296) / 2 ^ t:Nat):Int):=by
  rw[Int.natCast_ediv,e1]
  congr 1
 have f2:IntKind.u64.wrap ((dg W32 x (s+2):Nat)*2 ^ (64 - t))=((2 ^ (64 - t)*(dg W32 x (s+2) % 2 ^ t):Nat):Int):=by
  rw[u64_mod,e2,←Int.natCast_mul,←join_pow _ t ht];omega
 have hlt:2 ^ (64 - t)*(dg W32 x (s+2) % 2 ^ t) < 18446744073709551616:=by
  rw[←join_pow _ t ht];exact Nat.mod_lt _ (by omega)
 have hA':(dg W32 x s+dg W32 x (s+1)*4294967296) / 2 ^ t < 18446744073709551616:=Nat.lt_of_le_of_lt (Nat.div_le_self _ _) (by omega);rw[f1,f2,u64_or_nat _ _ hA' hlt,Nat.or_comm,nat_join (64 - t) _ _ (Nat.mul_mod_right _ _) hA,Nat.add_comm]
theorem window_any(va:Value)(x n:Nat)(w:World)(ha:Rep W32 w va x)(hx:x < W32 ^ 1000000000)(hn:n≤100000000000):
  Calls Tryz.prog 185 #[va,.int .i64 n] w fun e w'=>e=.returned (.int .u64 (x / 2 ^ n % 18446744073709551616:Nat))∧∃q,w'=w.drewN q:=by
 obtain⟨pa,na,ca,rfl,hca,hla,hsa⟩:=ha;have hna:=hla.le W32_pos hx;clear hx;obtain⟨s,t,hst,ht⟩:∃s t,n=32*s+t∧t < 32:=⟨n / 32,n % 32,by omega,by omega⟩
 have hs1:s≤100000000000:=by omega
 have hq:(n:Int) / 32=(s:Int):=by omega
 have hnt:n % 32=t:=by omega
 have Hnt:=hid hnt;have Hst:=hid hst;have h0:=word_any pa na ca x s w (by omega) (by omega) hla.1 hsa;have h1:=word_any pa na ca x (s+1) w (by omega) (by omega) hla.1 hsa
 have h2:=fun q=>word_any pa na ca x (s+2) (w.drewN q) (by omega) (by omega) hla.1 (hsa.below (below_drewN (Below.refl _ _) q))
 have d0:=dg_u32 x s;have d1:=dg_u32 x (s+1);have d2:=dg_u32 x (s+2);have hor:=or_join64i (dg W32 x (s+1)) (dg W32 x s) d1 d0;have H2:=hid h2;have Hw:=hid (window_val (x:=x) (s:=s) ht);rw[←Hst.out] at Hw;clear hst hnt h2 hla hsa;generalize dg W32 x s=a at *;generalize dg W32 x (s+1)=b at *;generalize dg W32 x (s+2)=c at *;go_enter Tryz.func185,Tryz.ntmps185;go_wp2_with fail;refine h0.mono ?_;rintro e w' ⟨rfl,rfl⟩;clear h0;go_wp2_with fail;refine h1.mono ?_;rintro e w' ⟨rfl,rfl⟩;clear h1;go_wp2_with fail
 go_quiet ((go_at_call 173;exact quiet_gen (H2.out _)))
 go_wp2_with fail
 go_ret
 refine⟨?_,_,rfl⟩;refine congrArg (fun z=>Ending.returned (.int .u64 z)) ?_;rw[Hnt.out];exact Hw.out
theorem diff_round{X a b x y cp cm bo cp' cm' bo' s j:Nat}(h:X+(b % W32 ^ j)*y+W32 ^ j*cp=(a % W32 ^ j)*x+W32 ^ j*(bo+cm))
  (hs:s+(cm+dg W32 b j*y+bo)+W32*cp'=cp+dg W32 a j*x+W32*(bo'+cm')):
  X+W32 ^ j*s+(b % W32 ^ (j+1))*y+W32 ^ (j+1)*cp'=(a % W32 ^ (j+1))*x+W32 ^ (j+1)*(bo'+cm'):=by
 have e:W32 ^ j*(s+(cm+dg W32 b j*y+bo)+W32*cp')=W32 ^ j*(cp+dg W32 a j*x+W32*(bo'+cm')):=by rw[hs]
 rw[mod_succ,mod_succ,Nat.pow_succ,Nat.mul_assoc,Nat.mul_assoc,Nat.add_mul,Nat.add_mul,Nat.mul_assoc (W32 ^ j) (dg W32 b j),Nat.mul_assoc (W32 ^ j) (dg W32 a j)];simp only[Nat.mul_add] at e h ⊢;omega
def Diff (w:World) (a b x y N m:Nat) (j cp cm bo X:Nat) (wr:World):Prop:=
 (m < j→cp=0∧cm=0)∧X < W32 ^ j∧X+(b % W32 ^ j)*y+W32 ^ j*cp=(a % W32 ^ j)*x+W32 ^ j*(bo+cm)∧cp < 4294967296∧cm < 4294967296∧bo≤1∧Mk W32 w wr N X
def DiffRel (w:World) (a b x y N m:Nat) (p mi bo ct:Value) (wr:World):Prop:=
 ∃j cp cm bb X:Nat,j≤N∧ct=.int .i64 j∧p=.int .u64 cp∧mi=.int .u64 cm∧bo=.int .u64 bb∧Diff w a b x y N m j cp cm bb X wr
theorem prod32(d x:Nat)(hd:d < 4294967296)(hx:x < 4294967296):(d:Int)*(x:Int)≤18446744065119617025∧0≤(d:Int)*(x:Int)∧d*x≤18446744065119617025:=by
 have h:d*x≤4294967295*4294967295:=Nat.mul_le_mul (by omega) (by omega);refine⟨?_,Int.mul_nonneg (by omega) (by omega),by omega⟩;rw[←Int.natCast_mul];omega
theorem and_low'(c d x:Nat)(hc:c < 4294967296)(hd:d < 4294967296)(hx:x < 4294967296):bits .and .u64 ((c:Int)+(d:Int)*(x:Int)) 4294967295=(((c+d*x) % 4294967296:Nat):Int):=by
 have:=(prod32 d x hd hx).2.2;rw[←and_low _ (by omega)];rfl
theorem difference_any(va vb:Value)(a b x y:Nat)(w:World)(ha:Rep W32 w va a)(hb:Rep W32 w vb b)(haB:a < W32 ^ 900000000)(hbB:b < W32 ^ 900000000)
  (hx:x < 4294967296)(hy:y < 4294967296)(hle:b*y≤a*x):
  Calls Tryz.prog 186 #[va,.int .u64 x,vb,.int .u64 y] w fun e w'=>∃v,e=.returned v∧Rep W32 w' v (a*x - b*y)∧Bw w w':=by
 obtain⟨pa,na,ca,rfl,hca,hla,hsa⟩:=ha;obtain⟨pb,nb,cb,rfl,hcb,hlb,hsb⟩:=hb;have hna:=hla.le W32_pos haB;have hnb:=hlb.le W32_pos hbB;have hmk:=Tryz.mk (max na nb+1) (by omega);rw[show((max na nb+1:Nat):Int)=max (na:Int) (nb:Int)+1 by omega] at hmk;have Hla:=hid (Ai hla.1 (Ai hlb.1 hle));have Hsa:=hid (Ai hsa hsb);clear haB hbB hla hlb hle hsa hsb;go_enter Tryz.func186,Tryz.ntmps186;go_wp2_with fail;clear hmk
 go_loopw [10,11,12,24] (DiffRel w a b x y (max na nb+1) (max na nb)) (fun _ _ _ ct _=>max na nb+1 - (intOf ct).toNat)
 case atStart=>
  refine⟨0,0,0,0,0,by omega,rfl,rfl,rfl,rfl,fun h=>absurd h (by omega),by simp,by simp [Nat.mod_one],by omega,by omega,by omega,?_⟩;exact Mk.start _ _ _
 case round=>
  obtain⟨j,cp,cm,bo,X,hj,rfl,rfl,rfl,rfl,hz,hX,hXe,hcp,hcm,hbo,hM⟩:=hrel
  by_cases hlt:j < max na nb+1
  ·have hlt':(na < nb∧j < nb+1)∨(nb≤na∧j < na+1):=by omega
   have hsa':=Hsa.out.1.below hM.bel;have hsb':=Hsa.out.2.below hM.bel;have hwa:=word_any pa na ca a j wr (by omega) (by omega) Hla.out.1 hsa';have hwb:=word_any pb nb cb b j wr (by omega) (by omega) Hla.out.2.1 hsb';have da:=dg_u32 a j;have db:=dg_u32 b j;have hza:=hid (fun h:max na nb≤j=>dg_zero' W32_pos Hla.out.1 (show na≤j by omega));have hzb:=hid (fun h:max na nb≤j=>dg_zero' W32_pos Hla.out.2.1 (show nb≤j by omega));have hcell:=hM.cell hlt;have hfrz:=hM.row.frozen j;have HR:=hid (fun s cp' cm' bo' h=>diff_round (s:=s) (cp':=cp') (cm':=cm') (bo':=bo') hXe h);have HX:=hid hX;have HM:=hid hM;clear hz hX hXe hM hsa' hsb';generalize dg W32 a j=d1 at *;generalize dg W32 b j=d2 at *;have hp1:=(prod32 d1 x da hx).1;have hp2:=(prod32 d1 x da hx).2.1;have hp3:=hid (prod32 d1 x da hx).2.2;have hq1:=(prod32 d2 y db hy).1;have hq2:=(prod32 d2 y db hy).2.1;have hq3:=hid (prod32 d2 y db hy).2.2;have hand1:=and_low' cp d1 x hcp da hx;have hand2:=and_low' cm d2 y hcm db hy;generalize hp0:(cp+d1*x) % 4294967296=p0 at *;generalize hm0:(cm+d2*y) % 4294967296=m0 at *
   have hp0l:p0 < 4294967296:=by rw[←hp0];exact Nat.mod_lt _ (by omega)
   have hm0l:m0 < 4294967296:=by rw[←hm0];exact Nat.mod_lt _ (by omega)
   have Hp0:=hid hp0;have Hm0:=hid hm0;clear hp0 hm0
   by_cases hb:m0+bo≤p0
   ·go_wp2_with fail;refine hwa.mono ?_;rintro e w' ⟨rfl,rfl⟩;go_wp2_with fail;refine hwb.mono ?_;rintro e w' ⟨rfl,rfl⟩;clear hwa hwb;go_wp2_with fail
    go_roundw
    case rel=>
     have hs:p0 - m0 - bo < W32:=by rw[W32_val];omega
     have e1:=Hp0.out;have e2:=Hm0.out;have e3:=hp3.out;have e4:=hq3.out
     refine⟨j+1,(cp+d1*x) / 4294967296,(cm+d2*y) / 4294967296,0,X+W32 ^ j*(p0 - m0 - bo),by omega,by go_num,congrArg (Value.int .u64) (by rw[←Int.natCast_mul];omega),congrArg (Value.int .u64) (by rw[←Int.natCast_mul];omega),congrArg (Value.int .u64) (by omega),
      fun h=>?_,add_lt HX.out hs,HR.out _ _ _ _ (by rw[W32_val];omega),by omega,by omega,by omega,HM.out.push W32_pos HX.out hs (by omega)⟩
     have f1:=hza.out (by omega);have f2:=hzb.out (by omega);subst f1 f2;omega
    case measure=>simp [intOf];omega
   ·have hw:=u64_take p0 m0 bo hp0l hm0l hbo (by omega);have Hw:=hid hw;clear hw;go_wp2_with fail;refine hwa.mono ?_;rintro e w' ⟨rfl,rfl⟩;go_wp2_with fail;refine hwb.mono ?_;rintro e w' ⟨rfl,rfl⟩;clear hwa hwb;go_wp2_with fail
    go_roundw
    case rel=>
     have hs:4294967296+p0 - m0 - bo < W32:=by rw[W32_val];omega
     have e1:=Hp0.out;have e2:=Hm0.out;have e3:=hp3.out;have e4:=hq3.out;rw[Hw.out]
     refine⟨j+1,(cp+d1*x) / 4294967296,(cm+d2*y) / 4294967296,1,X+W32 ^ j*(4294967296+p0 - m0 - bo),by omega,by go_num,congrArg (Value.int .u64) (by rw[←Int.natCast_mul];omega),congrArg (Value.int .u64) (by rw[←Int.natCast_mul];omega),congrArg (Value.int .u64) (by omega),
      fun h=>?_,add_lt HX.out hs,HR.out _ _ _ _ (by rw[W32_val];omega),by omega,by omega,by omega,HM.out.push W32_pos HX.out hs (by omega)⟩
     have f1:=hza.out (by omega);have f2:=hzb.out (by omega);subst f1 f2;omega
    case measure=>simp [intOf];omega
  ·have hj':j=max na nb+1:=by omega
   obtain⟨z1,z2⟩:=hz (by omega);subst z1 z2;have hva:a < W32 ^ j:=lt_pow Hla.out.1 (by omega);have hvb:b < W32 ^ j:=lt_pow Hla.out.2.1 (by omega);rw[Nat.mod_eq_of_lt hva,Nat.mod_eq_of_lt hvb] at hXe;have hle:=Hla.out.2.2
   have hXv:X=a*x - b*y:=by
    rcases(show bo=0∨bo=1 by omega) with rfl | rfl
    ·simp only[Nat.mul_zero,Nat.add_zero] at hXe;omega
    ·exfalso;simp only[Nat.mul_zero,Nat.add_zero,Nat.mul_one] at hXe;omega
   have hsl:=hM.slc;have hbel:=hM.bel;rw[←hj'] at hsl;have HH:=hid (Ai hXv (Ai hX (Ai hsl hbel)));clear hXv hX hsl hbel hM hXe hz hva hvb hle;go_wp2_with fail;obtain⟨hXv,hX,hsl,hbel⟩:=HH.out;refine(Of_any _ _ _ X _ (by omega) (Nat.le_refl _) ?_ ?_).mono ?_
   ·rw[←hj'];exact hX
   ·rw[←hj'];exact hsl
   rintro e w' ⟨m,rfl,hm,hlen,rfl⟩;clear HH hX;have HH2:=hid (Ai hXv (Ai hsl (Ai hbel (Ai hm hlen))));clear hXv hsl hbel hm hlen;go_wp2_with fail
   go_ret
   obtain⟨hXv,hsl,hbel,hm,hlen⟩:=HH2.out;rw[←hXv];exact⟨_,rfl,⟨_,_,_,rfl,hm,hlen,hsl.take (by omega)⟩,hbel⟩
open Go.RowKit Dg Lm
def StepRel (w:World) (a b X Y:Nat) (sx sy su0 su1 su2 sv0 sv1 sv2 se:Value) (wr:World):Prop:=
 ∃(x y u0 u1 u2 v0 v1 v2 q:Nat) (ev:Bool),sx=.int .u64 x∧sy=.int .u64 y∧su0=.int .u64 u0∧su1=.int .u64 u1∧su2=.int .u64 u2∧sv0=.int .u64 v0∧sv1=.int .u64 v1∧sv2=.int .u64 v2∧se=.bool ev∧
  wr=w.drewN q∧St a b X Y x y u0 u1 u2 v0 v1 v2 ev∧x < 18446744073709551616∧u2 < 18446744073709551616∧v2 < 18446744073709551616∧u0 < 4294967296∧v0 < 4294967296
def StepPost (a b:Nat) (w:World) (e:Ending) (w':World):Prop:=
 Bw w w'∧
 ((e=.returned (.tuple #[.slice none 0 0,.slice none 0 0,.bool false]))∨
  ∃v1 v2 n r,e=.returned (.tuple #[v1,v2,.bool true])∧Rep W32 w' v1 n∧Rep W32 w' v2 r∧r < n∧r < b∧n≤b∧Nat.gcd n r=Nat.gcd a b)
theorem ShiftFact{a b k:Nat}(hk:Len 2 a (k+64))(hba:b≤a):a / 2 ^ k % 18446744073709551616=a / 2 ^ k∧b / 2 ^ k % 18446744073709551616=b / 2 ^ k∧a / 2 ^ k < 18446744073709551616∧b / 2 ^ k≤a / 2 ^ k:=by
 have h1:a / 2 ^ k < 2 ^ 64:=Nat.div_lt_of_lt_mul (by rw[←Nat.pow_add];exact hk.1);have h2:b / 2 ^ k≤a / 2 ^ k:=Nat.div_le_div_right hba;exact⟨Nat.mod_eq_of_lt (by omega),Nat.mod_eq_of_lt (by omega),by omega,h2⟩
theorem steps_any(va vb:Value)(a b:Nat)(w:World)(ha:Rep W32 w va a)(hb:Rep W32 w vb b)(haB:a < W32 ^ 900000000)(hbB:b < W32 ^ 900000000)(hba:b≤a)(hb2:W32 ^ 2≤b):
  Calls Tryz.prog 176 #[va,vb] w (StepPost a b w):=by
 have haG:=lt_big haB (by omega);have hbG:=lt_big hbB (by omega);have hbits:=Bits_any va a w ha haG
 have hsz:∃n,n≤900000000∧a < W32 ^ n:=by
  obtain⟨p,n,cap,rfl,_,hl,_⟩:=ha;exact⟨n,hl.le W32_pos haB,hl.1⟩
 obtain⟨na,hna,haN⟩:=hsz;have HH:=hid (Ai ha (Ai hb (Ai haB (Ai hbB (Ai hba (Ai hb2 (Ai haG (Ai hbG haN))))))));clear ha hb haB hbB hba hb2 haG hbG haN;go_enter Tryz.func176,Tryz.ntmps176;go_wp2_with fail;refine hbits.mono ?_;rintro e w' ⟨bb,rfl,hlen,rfl⟩
 have h65:65≤bb:=by
  obtain⟨_,_,_,_,hba,hb2,_⟩:=HH.out;have h1:=hlen.1
  have h2:W32 ^ 2=2 ^ 64:=by decide
  rw[h2] at hb2
  have h3:2 ^ 64 < 2 ^ bb:=by omega
  have:=(Nat.pow_lt_pow_iff_right (a:=2) (by omega)).1 h3;omega
 have hbb:bb≤32*na:=hlen.le (by omega) (by rw[←W32_pow];exact HH.out.2.2.2.2.2.2.2.2);obtain⟨k,rfl⟩:∃k,bb=k+64:=⟨bb - 64,by omega⟩;have hSF:=hid (ShiftFact hlen HH.out.2.2.2.2.1)
 have e1:((k+64:Nat):Int) - 64=k:=by omega
 have hwx:=window_any va a k w HH.out.1 HH.out.2.2.2.2.2.2.1 (by omega)
 have hwy:=fun q=>window_any vb b k (w.drewN q) (HH.out.2.1.drewN q) HH.out.2.2.2.2.2.2.2.1 (by omega)
 rw[hSF.out.1] at hwx;simp only[hSF.out.2.1] at hwy;have hSa:=hid (Nat.div_add_mod a (2 ^ k));have hSb:=hid (Nat.div_add_mod b (2 ^ k));obtain⟨hS1,hS2⟩:=hSF.out.2.2;generalize hX:a / 2 ^ k=X at *;generalize hY:b / 2 ^ k=Y at *;have Hwy:=hid hwy;have hXY:=hid (Ai hS1 hS2);clear hbits hlen hwy hX hY hSF hS1 hS2;go_wp2_with fail;refine hwx.mono ?_;rintro e w' ⟨rfl,q1,rfl⟩;clear hwx;go_wp2_with fail;refine(Hwy.out q1).mono ?_;rintro e w' ⟨rfl,q2,rfl⟩;clear e1 Hwy;go_wp2_with fail
 go_loopw [8,9,10,11,12,13,14,15,16] (StepRel w a b X Y) (fun _ y _ _ _ _ _ _ _ _=>(intOf y).toNat)
 case atStart=>exact⟨X,Y,0,1,0,0,0,1,_,false,rfl,rfl,rfl,rfl,rfl,rfl,rfl,rfl,rfl,rfl,St.start hXY.out.2,hXY.out.1,by omega,by omega,by omega,by omega⟩
 case round=>
  obtain⟨x,y,u0,u1,u2,v0,v1,v2,q,ev,rfl,rfl,rfl,rfl,rfl,rfl,rfl,rfl,rfl,rfl,hSt,hx64,hu64,hv64,hu032,hv032⟩:=hrel;have hyx:=hSt.yx;have hv1s:=hSt.v1small;have hu1s:=hSt.u1small;have hBd:=hid (fun h=>hSt.bound (hXY.out.1) h);have hNx:=hid (fun h1 h2=>hSt.next (α:=a % 2 ^ k) (β:=b % 2 ^ k) (S:=2 ^ k) hXY.out.1 (by rw[Nat.mul_comm];exact hSa.out.symm) (by rw[Nat.mul_comm];exact hSb.out.symm) (Nat.mod_lt _ (Nat.pow_pos (by omega))) (Nat.mod_lt _ (Nat.pow_pos (by omega))) h1 h2);have hRes:=hid (fun h=>hSt.result h);have Hx64:=hid (Ai hx64 (Ai hu64 hv64));clear hSt hx64 hu64 hv64
  by_cases hbody:v2≤y∧v1+v2≤x - y
  ·obtain⟨hc1,hc2⟩:=hbody;obtain⟨b1,b2,b3,b4,b5,b6,b7⟩:=hBd.out hc1;have g1:decide ((v2:Int)≤(y:Int))=true:=decide_eq_true (by omega);have g2:decide ((v1:Int)+(v2:Int)≤(x:Int) - (y:Int))=true:=decide_eq_true (by omega);have hNx2:=hid (hNx.out hc1 hc2)
   have hqI:(x:Int) / (y:Int)=((x / y:Nat):Int):=by rw[Int.natCast_ediv]
   have hrI:(x:Int) % (y:Int)=((x % y:Nat):Int):=by rw[Int.natCast_emod]
   have hx64:=Hx64.out.1;have hR64:x % y < 18446744073709551616:=Nat.lt_of_le_of_lt (Nat.mod_le _ _) hx64;have hQ64:x / y < 18446744073709551616:=Nat.lt_of_le_of_lt (Nat.div_le_self _ _) hx64
   have w1:IntKind.u64.wrap (((x / y:Nat):Int)*(u2:Int))=((x / y*u2:Nat):Int):=by rw[←Int.natCast_mul,u64_mod];omega
   have w2:IntKind.u64.wrap ((u1:Int)+((x / y*u2:Nat):Int))=((u1+x / y*u2:Nat):Int):=by rw[u64_mod];omega
   have w3:IntKind.u64.wrap (((x / y:Nat):Int)*(v2:Int))=((x / y*v2:Nat):Int):=by rw[←Int.natCast_mul,u64_mod];omega
   have w4:IntKind.u64.wrap ((v1:Int)+((x / y*v2:Nat):Int))=((v1+x / y*v2:Nat):Int):=by rw[u64_mod];omega
   have hRy:x % y < y:=Nat.mod_lt _ b3;have HrI:=hid hrI;generalize hU:u1+x / y*u2=U at *;generalize hV:v1+x / y*v2=V at *;generalize hMu:x / y*u2=Mu at *;generalize hMv:x / y*v2=Mv at *;generalize x / y=Q at *;generalize x % y=R at *;have HB:=hid (Ai b6 (Ai b7 hR64));clear hU hV hMu hMv hBd hNx hRes b4 b5 b6 b7 hR64;go_wp2_with fail
   go_quiet (fail)
   go_wp2_with fail
   go_roundw
   case rel=>
    obtain⟨b6,b7,hR64⟩:=HB.out;exact⟨y,R,u1,u2,U,v1,v2,V,_,!ev,rfl,congrArg (Value.int .u64) HrI.out,rfl,rfl,rfl,rfl,rfl,rfl,rfl,rfl,hNx2.out,by omega,b7,b6,by omega,by omega⟩
   case measure=>
    have e:=HrI.out;show(intOf (Value.int .u64 ((x:Int) % (y:Int)))).toNat < (intOf (Value.int .u64 (y:Int))).toNat;simp only[intOf];rw[e];omega
  ·have hx64:=Hx64.out.1
   have hex:(y < v2)∨(v2 < 4294967296∧v2≤y∧x - y < v1+v2):=by
    by_cases hc1:v2≤y
    ·right
     exact⟨(hBd.out hc1).1,hc1,by omega⟩
    ·left
     omega
   have hWq:=hid (HH.out);clear hbody hBd hNx
   rcases hex with g1 | ⟨g0,g1,g2⟩
   all_goals
    by_cases hz:v0=0
    ·subst hz
     clear hRes;go_wp2_with fail
     go_ret3
     exact⟨below_drewN (Below.refl _ _) q,.inl rfl⟩
    ·have hz':((v0:Int) == 0)=false:=by simpa using hz
     obtain⟨n,r,hn,hr,hrn,hrb,hnb,hg⟩:=hRes.out hz;have HR:=hid (Ai hrn (Ai hrb (Ai hnb hg)));clear hRes hrn hrb hnb hg;cases ev
     ·simp only[cmb,Bool.not_false,if_true,Bool.false_eq_true,if_false] at hn hr
      have l1:a*u0≤b*v0:=by
       have e1:((v0*b:Nat):Int)=((u0*a:Nat):Int)+n:=by push_cast;omega
       rw[Nat.mul_comm a,Nat.mul_comm b];omega
      have l2:b*v1≤a*u1:=by
       have e1:((u1*a:Nat):Int)=((v1*b:Nat):Int)+r:=by push_cast;omega
       rw[Nat.mul_comm a,Nat.mul_comm b];omega
      have d1:b*v0 - a*u0=n:=by
       have e1:((v0*b:Nat):Int)=((u0*a:Nat):Int)+n:=by push_cast;omega
       rw[Nat.mul_comm a,Nat.mul_comm b];omega
      have d2:a*u1 - b*v1=r:=by
       have e1:((u1*a:Nat):Int)=((v1*b:Nat):Int)+r:=by push_cast;omega
       rw[Nat.mul_comm a,Nat.mul_comm b];omega
      have HD:=hid (Ai l1 (Ai l2 (Ai d1 d2)));clear l1 l2 d1 d2 hn hr;go_wp2_with fail;refine(difference_any vb va b a v0 u0 _ (HH.out.2.1.drewN q) (HH.out.1.drewN q) HH.out.2.2.2.1 HH.out.2.2.1 hv032 hu032 HD.out.1).mono ?_;rintro e w1 ⟨z1,rfl,hR1,hB1⟩;have HR1:=hid hR1;clear hR1;go_wp2_with fail;refine(difference_any va vb a b u1 v1 _ ((HH.out.1.drewN q).below hB1) ((HH.out.2.1.drewN q).below hB1) HH.out.2.2.1 HH.out.2.2.2.1 hu1s hv1s HD.out.2.1).mono ?_;rintro e w2 ⟨z2,rfl,hR2,hB2⟩;have HR2:=hid hR2;clear hR2;go_wp2_with fail
      go_ret3
      have k1:=HR1.out.below hB2;have k2:=HR2.out;rw[HD.out.2.2.1] at k1;rw[HD.out.2.2.2] at k2;exact⟨(below_drewN (Below.refl _ _) q).trans ((hB1.mono (Nat.le_refl _)).trans (hB2.mono hB1.size)),.inr ⟨_,_,n,r,rfl,k1,k2,HR.out.1,HR.out.2.1,HR.out.2.2.1,HR.out.2.2.2⟩⟩
     ·simp only[cmb,Bool.not_true,if_true,Bool.false_eq_true,if_false] at hn hr
      have l1:b*v0≤a*u0:=by
       have e1:((u0*a:Nat):Int)=((v0*b:Nat):Int)+n:=by push_cast;omega
       rw[Nat.mul_comm a,Nat.mul_comm b];omega
      have l2:a*u1≤b*v1:=by
       have e1:((v1*b:Nat):Int)=((u1*a:Nat):Int)+r:=by push_cast;omega
       rw[Nat.mul_comm a,Nat.mul_comm b];omega
      have d1:a*u0 - b*v0=n:=by
       have e1:((u0*a:Nat):Int)=((v0*b:Nat):Int)+n:=by push_cast;omega
       rw[Nat.mul_comm a,Nat.mul_comm b];omega
      have d2:b*v1 - a*u1=r:=by
       have e1:((v1*b:Nat):Int)=((u1*a:Nat):Int)+r:=by push_cast;omega
       rw[Nat.mul_comm a,Nat.mul_comm b];omega
      have HD:=hid (Ai l1 (Ai l2 (Ai d1 d2)));clear l1 l2 d1 d2 hn hr;go_wp2_with fail;refine(difference_any va vb a b u0 v0 _ (HH.out.1.drewN q) (HH.out.2.1.drewN q) HH.out.2.2.1 HH.out.2.2.2.1 hu032 hv032 HD.out.1).mono ?_;rintro e w1 ⟨z1,rfl,hR1,hB1⟩;have HR1:=hid hR1;clear hR1;go_wp2_with fail;refine(difference_any vb va b a v1 u1 _ ((HH.out.2.1.drewN q).below hB1) ((HH.out.1.drewN q).below hB1) HH.out.2.2.2.1 HH.out.2.2.1 hv1s hu1s HD.out.2.1).mono ?_;rintro e w2 ⟨z2,rfl,hR2,hB2⟩;have HR2:=hid hR2;clear hR2;go_wp2_with fail
      go_ret3
      have k1:=HR1.out.below hB2;have k2:=HR2.out;rw[HD.out.2.2.1] at k1;rw[HD.out.2.2.2] at k2;exact⟨(below_drewN (Below.refl _ _) q).trans ((hB1.mono (Nat.le_refl _)).trans (hB2.mono hB1.size)),.inr ⟨_,_,n,r,rfl,k1,k2,HR.out.1,HR.out.2.1,HR.out.2.2.1,HR.out.2.2.2⟩⟩
end Go.Proofs.YteblinkehldghaaGreatDoor
