/- The natural numbers of the program: binary digits. -/
import Derived.Test.YteblinkehldghaaGreatDoorNatE
import Derived.Test.YteblinkehldghaaGreatDoorLen32
import Derived.Laws.BitsAllLaws
import Derived.Test.YteblinkehldghaaGreatDoorBase
namespace Go.Proofs.YteblinkehldghaaGreatDoor
open Go.RowKit Dg
theorem Len32_any(x:Nat)(w:World)(hx:x < 4294967296):
  Calls Tryz.prog 182 #[.int .u32 x] w fun e w'=>e=.returned (.int .i64 (Lib.bitLen x))∧w=w':=
 Len32_int x w (by omega) (by omega)
theorem bitLen_len:∀(k x:Nat),x < 2 ^ k→k≤64→Len 2 x (Lib.bitLen x)
 | 0,x,hx,_=>by
  obtain rfl:x=0:=by simpa using hx
  exact Len.zero
 | k+1,x,hx,hk=>by
  by_cases h0:x=0
  ·subst h0;exact Len.zero
  ·have h64:x < 2 ^ 64:=Nat.lt_of_lt_of_le hx (Nat.pow_le_pow_right (by omega) hk);have ih:=bitLen_len k (x / 2) (by rw[Nat.pow_succ] at hx;omega) (by omega);rw[Lib.bitLen_half x h0 h64,Nat.add_comm];refine⟨by have:=ih.1;rw[Nat.pow_succ];omega,fun _=>?_⟩;simp only[Nat.add_sub_cancel]
   rcases Nat.eq_zero_or_pos (Lib.bitLen (x / 2)) with hb | hb
   ·rw[hb];simp;omega
   ·have:=ih.2 hb;obtain⟨c,hc⟩:∃c,Lib.bitLen (x / 2)=c+1:=⟨Lib.bitLen (x / 2) - 1,by omega⟩;rw[hc] at this ⊢;simp only[Nat.add_sub_cancel] at this;rw[Nat.pow_succ];omega
theorem LeadingZeros32_any(x:Nat)(w:World)(hx:x < 4294967296):
  Calls Tryz.prog 178 #[.int .u32 x] w fun e w'=>∃b:Nat,e=.returned (.int .i64 ((32:Int) - b))∧b≤32∧Len 2 x b∧w=w':=by
 have hl:=bitLen_len 32 x (by omega) (by omega);have h32:Lib.bitLen x≤32:=hl.le (by omega) (show x < 2 ^ 32 by omega);have hc:=Len32_any x w hx;generalize Lib.bitLen x=b at *;have HL:Hid (Len 2 x b):=hl;clear hl;go_enter Tryz.func178,Tryz.ntmps178;go_wp2_with fail;refine hc.mono ?_;rintro e w' ⟨rfl,rfl⟩;clear hc;go_wp2_with fail
 go_ret
 exact⟨b,rfl,h32,HL.out,rfl⟩
theorem len_up{x k b:Nat}(h:Len 2 (x / 2 ^ k) b)(hb:0 < b):Len 2 x (k+b):=by
 refine⟨?_,fun _=>?_⟩
 ·have h1:=h.1;rw[Nat.div_lt_iff_lt_mul (Nat.pow_pos (by omega)),←Nat.pow_add,Nat.add_comm b k] at h1;exact h1
 ·have h2:=h.2 hb;rw[Nat.le_div_iff_mul_le (Nat.pow_pos (by omega)),←Nat.pow_add] at h2;rw[show k+b - 1=b - 1+k by omega];exact h2
theorem W32_pow(k:Nat):W32 ^ k=2 ^ (32*k):=by rw[Nat.pow_mul];rfl
theorem Bits_any(v:Value)(x:Nat)(w:World)(h:Rep W32 w v x)(hx:x < W32 ^ 1000000000):
  Calls Tryz.prog 167 #[v] w fun e w'=>∃b:Nat,e=.returned (.int .i64 b)∧Len 2 x b∧w=w':=by
 obtain⟨p,n,cap,rfl,_,hl,hs⟩:=h;have hn:=hl.le W32_pos hx;clear hx
 rcases Nat.eq_zero_or_pos n with h0 | h0
 ·subst h0;obtain rfl:=hl.eq_zero;clear hl hs;go_enter Tryz.func167,Tryz.ntmps167;go_wp2_with fail
  go_ret
  exact⟨0,rfl,Len.zero,rfl⟩
 ·obtain⟨k,rfl⟩:∃k,n=k+1:=⟨n - 1,by omega⟩;obtain⟨b,off,rfl,hc⟩:=hs (by omega);have hck:=hc k (by omega)
  have ht:dg W32 x k=x / 2 ^ (32*k):=by rw[dg_top hl.1,W32_pow]
  have h1:=dg_u32 x k;have hne:=hl.top W32_pos h0;simp only[Nat.add_sub_cancel] at hne;have HT:Hid (dg W32 x k=x / 2 ^ (32*k)):=ht;clear ht hc hs hl;have hcal:=LeadingZeros32_any (dg W32 x k) w h1;generalize dg W32 x k=t at *
  have hz:((((k+1:Nat):Int)) == 0)=false:=by simp;omega
  go_enter Tryz.func167,Tryz.ntmps167;go_wp2_with fail;refine hcal.mono ?_;rintro e w' ⟨b,rfl,hb,hlen,rfl⟩;have Hl:Hid (Len 2 t b):=hlen;clear hcal hlen;go_wp2_with fail
  go_ret
  have hb0:0 < b:=by
   rcases Nat.eq_zero_or_pos b with h | h
   ·subst h;exact absurd Hl.out.eq_zero hne
   ·exact h
  refine⟨32*k+b,ret_i64 (by omega),len_up (by rw[←HT.out];exact Hl.out) hb0,rfl⟩
theorem below_drewN{B:Nat}{a w:World}(h:Below B a w)(n:Nat):Below B a (w.drewN n):=h.trans ⟨rfl,rfl,rfl,Nat.le_refl _,fun _ _=>rfl⟩
/-! ### The last bit of a word -/
theorem odd_and:∀(k m:Nat),m < 2 ^ k→m % 2=1→m &&& (2 ^ k - m)=1:=by
 intro k m hm hodd;obtain⟨a,rfl⟩:∃a,m=2*a+1:=⟨m / 2,by omega⟩
 obtain⟨j,rfl⟩:∃j,k=j+1:=⟨k - 1,by
  rcases Nat.eq_zero_or_pos k with h | h
  ·subst h;simp at hm
  ·omega⟩
 have ha:a < 2 ^ j:=by rw[Nat.pow_succ] at hm;omega
 apply Nat.eq_of_testBit_eq;intro i;rw[Nat.testBit_and];rw[show 2 ^ (j+1) - (2*a+1)=2 ^ (j+1) - (2*a+1) from rfl]
 cases i with
 | zero=>
  have h2:(2 ^ (j+1) - (2*a+1)) % 2=1:=by rw[Nat.pow_succ] at *;omega
  simp [Nat.testBit_zero,h2]
 | succ i=>
  have h3:(2 ^ (j+1) - (2*a+1)) / 2=2 ^ j - (a+1):=by rw[Nat.pow_succ] at *;omega
  rw[Nat.testBit_succ,Nat.testBit_succ,Nat.testBit_succ,h3,Nat.testBit_two_pow_sub_succ ha];rw[show(2*a+1) / 2=a by omega]
  have h4:Nat.testBit (1 / 2) i=false:=by simp
  rw[h4]
  cases a.testBit i<;>simp
theorem scale_and(z a b:Nat):(2 ^ z*a) &&& (2 ^ z*b)=2 ^ z*(a &&& b):=by
 apply Nat.eq_of_testBit_eq;intro i;rw[Nat.testBit_and,Nat.testBit_two_pow_mul,Nat.testBit_two_pow_mul,Nat.testBit_two_pow_mul,Nat.testBit_and]
 cases decide (i ≥ z)<;>simp
theorem and_neg{z m:Nat}(hz:z≤32)(h:2 ^ z*m < 4294967296)(hm:m % 2=1):(2 ^ z*m) &&& (4294967296 - 2 ^ z*m)=2 ^ z:=by
 have e:4294967296=2 ^ z*2 ^ (32 - z):=by rw[←Nat.pow_add,show z+(32 - z)=32 by omega]
 have hlt:m < 2 ^ (32 - z):=by
  rw[e] at h;exact Nat.lt_of_mul_lt_mul_left h
 rw[e,←Nat.mul_sub,scale_and,odd_and _ _ hlt hm,Nat.mul_one]
def tzTab (k:Nat):Nat:=[0,1,28,2,29,14,24,3,30,22,20,15,25,17,4,8,31,27,13,23,21,19,16,7,26,12,18,6,11,5,10,9].getD k 0
def TabOk (w:World):Prop:=∀k,k < 32→w.cell? ⟨0,k,none⟩=some (.int .u8 (tzTab k:Nat))
theorem TabOk.below{w w':World}(h:TabOk w)(hb:Bw w w'):TabOk w':=fun k hk=>by
 rw[hb.cell (p:=⟨0,k,none⟩) (World.block_lt_of_cell? _ _ (h k hk))];exact h k hk
theorem deBruijn:∀z:Fin 32,(2 ^ z.val*125613361 % 4294967296) / 134217728 < 32∧tzTab ((2 ^ z.val*125613361 % 4294967296) / 134217728)=z.val:=by decide+kernel
def Tz (x z:Nat):Prop:=∃m,x=2 ^ z*m∧m % 2=1
theorem Tz.exists:∀{x:Nat},0 < x→∃z,Tz x z:=by
 intro x
 induction x using Nat.strongRecOn with
 | _ x ih=>
  intro hx
  by_cases h:x % 2=1
  ·exact⟨0,x,by simp,h⟩
  ·obtain⟨z,m,hm,ho⟩:=ih (x / 2) (by omega) (by omega);exact⟨z+1,m,by rw[Nat.pow_succ];grind,ho⟩
theorem neg_mod(x:Nat)(hx:x < 4294967296)(h0:0 < x):(-(x:Int)) % 4294967296=((4294967296 - x:Nat):Int):=by omega
set_option maxRecDepth 100000 in
theorem TrailingZeros32_walk(x P k z:Nat)(w:World)(hne:((x:Int) == 0)=false)(hk:k < 32)(hz:z < 32)
  (hb:bits .and .u32 (x:Int) (-(x:Int) % 4294967296)=(P:Int))(hi:(P:Int)*125613361 % 4294967296 / 134217728=(k:Int))
  (hc:w.cell? ⟨0,k,none⟩=some (.int .u8 (z:Nat))):
  Calls Tryz.prog 175 #[.int .u32 x] w fun e w'=>e=.returned (.int .i64 z)∧w=w':=by
 go_enter Tryz.func175,Tryz.ntmps175;go_wp2_with fail
 go_ret
 exact⟨rfl,rfl⟩
theorem TrailingZeros32_any(x:Nat)(w:World)(hx:x < 4294967296)(h0:0 < x)(ht:TabOk w):
  Calls Tryz.prog 175 #[.int .u32 x] w fun e w'=>∃z:Nat,e=.returned (.int .i64 z)∧z < 32∧Tz x z∧w=w':=by
 obtain⟨z,m,hm,ho⟩:=Tz.exists h0
 have hz:z < 32:=by
  rcases Nat.lt_or_ge z 32 with h | h
  ·exact h
  ·have h1:2 ^ 32≤2 ^ z:=Nat.pow_le_pow_right (by omega) h;have h2:2 ^ z*1≤2 ^ z*m:=Nat.mul_le_mul_left _ (by omega);omega
 have hb:bits .and .u32 (x:Int) (-(x:Int) % 4294967296)=((2 ^ z:Nat):Int):=by
  rw[neg_mod x hx h0,u32_and_nat _ _ hx (by omega),hm,and_neg (by omega) (by rw[←hm];exact hx) ho]
 obtain⟨hk,hv⟩:=deBruijn ⟨z,hz⟩;have hc:=ht _ hk;rw[hv] at hc;refine(TrailingZeros32_walk x (2 ^ z) _ z w (by simp;omega) hk hz hb ?_ hc).mono ?_
 ·show((2 ^ z:Nat):Int)*125613361 % 4294967296 / 134217728=_;generalize 2 ^ z=P;omega
 ·rintro e w' ⟨rfl,rfl⟩;exact⟨z,rfl,hz,⟨m,hm,ho⟩,rfl⟩
theorem tz_word{x k z:Nat}(h:x % W32 ^ k=0)(hz:z < 32)(ht:Tz (dg W32 x k) z):Tz x (32*k+z):=by
 obtain⟨m,hm,ho⟩:=ht;have h1:=Nat.mod_add_div x (W32 ^ k);rw[h,Nat.zero_add,div_succ W32 x k,hm] at h1;refine⟨m+2 ^ (32 - z)*(x / W32 ^ (k+1)),?_,?_⟩
 ·have e:W32=2 ^ z*2 ^ (32 - z):=by rw[←Nat.pow_add,show z+(32 - z)=32 by omega];rfl
  have e2:2 ^ (32*k+z)=W32 ^ k*2 ^ z:=by rw[Nat.pow_add,←W32_pow]
  rw[e2];generalize x / W32 ^ (k+1)=q at *;generalize W32 ^ k=P at *;rw[←h1,e];grind
 ·obtain⟨t,ht⟩:∃t,32 - z=t+1:=⟨31 - z,by omega⟩;rw[ht,Nat.pow_succ,Nat.mul_right_comm,Nat.mul_comm _ 2];omega
set_option maxRecDepth 100000 in
theorem Zeros_any(v:Value)(x:Nat)(w:World)(h:Rep W32 w v x)(hx:x < W32 ^ 1000000000)(h0:0 < x)(ht:TabOk w):
  Calls Tryz.prog 164 #[v] w fun e w'=>∃z:Nat,e=.returned (.int .i64 z)∧Tz x z∧w=w':=by
 obtain⟨p,n,cap,rfl,_,hl,hs⟩:=h;have hn:=hl.le W32_pos hx;clear hx;go_enter Tryz.func164,Tryz.ntmps164;go_wp2_with fail
 go_loop [7] (fun i=>∃k:Nat,k≤n∧i=.int .i64 k∧x % W32 ^ k=0) (fun i=>n - (intOf i).toNat)
 case atStart=>exact⟨0,by omega,rfl,by simp [Nat.mod_one]⟩
 case round=>
  obtain⟨k,hk,rfl,hm⟩:=hrel;have HM:Hid (x % W32 ^ k=0):=hm;clear hm
  by_cases hlt:k < n
  ·obtain⟨b,off,rfl,hc⟩:=hs (by omega);have hck:=hc k hlt;have hd:=dg_u32 x k;have HS:Hid (x % W32 ^ (k+1)=x % W32 ^ k+W32 ^ k*dg W32 x k):=mod_succ _ _ _
   have HT:Hid (∀z,z < 32→Tz (dg W32 x k) z→Tz x (32*k+z)):=fun z hz ht=>tz_word HM.out hz ht
   clear hc hs;generalize dg W32 x k=d at *
   by_cases hd0:d=0
   ·subst hd0;go_wp2_with fail
    go_round
    case rel=>exact⟨k+1,by omega,by go_num,by rw[HS.out,HM.out];simp⟩
    case measure=>simp [intOf];omega
   ·have hne:((d:Int) != 0)=true:=by simp;omega
    have hne':((d:Int) == 0)=false:=by simp;omega
    have hcal:=TrailingZeros32_any d w hd (by omega) ht;clear ht;go_wp2_with fail;refine hcal.mono ?_;rintro e w' ⟨z,rfl,hz,htz,rfl⟩;have HZ:Hid (Tz d z):=htz;clear hcal htz;go_wp2_with fail
    go_ret
    exact⟨32*k+z,ret_i64 (by omega),HT.out z hz HZ.out,rfl⟩
  ·exfalso
   have hk':k=n:=by omega
   subst hk';have:=HM.out;rw[Nat.mod_eq_of_lt hl.1] at this;omega
set_option maxHeartbeats 1000000
set_option maxRecDepth 100000
theorem quiet_gen{P:Program}{f:FuncId}{args:Array Value}{F:Nat→World}{n:Nat}{v:Value}
  (h:Calls P f args (F n) fun e w'=>e=.returned v∧F n=w'):Calls P f args (F n) fun e w''=>e=.returned v∧∃m,w''=F m:=
 h.mono fun _ _ ⟨he,hm⟩=>⟨he,n,hm.symm⟩
theorem div_pow_zero{x n:Nat}(h:x < W32 ^ n):x / W32 ^ n=0:=Nat.div_eq_of_lt h
theorem cmp3_len{x y m n:Nat}(hx:Len W32 x m)(hy:Len W32 y n)(h:m≠n):cmp3 m n=cmp3 x y:=by
 rcases Nat.lt_or_ge m n with hl | hl
 ·rw[cmp3_lt hl,cmp3_lt (hx.lt_of_lt W32_pos hy hl)]
 ·have hl':n < m:=by omega
  rw[cmp3_gt hl',cmp3_gt (hy.lt_of_lt W32_pos hx hl')]
theorem cmp3_dg{x y k:Nat}(h:x / W32 ^ (k+1)=y / W32 ^ (k+1))(hd:dg W32 x k≠dg W32 y k):cmp3 (dg W32 x k) (dg W32 y k)=cmp3 x y:=by
 rcases Nat.lt_or_ge (dg W32 x k) (dg W32 y k) with hl | hl
 ·rw[cmp3_lt hl,cmp3_lt (lt_of_dg_lt h hl)]
 ·have hl':dg W32 y k < dg W32 x k:=by omega
  rw[cmp3_gt hl',cmp3_gt (lt_of_dg_lt h.symm hl')]
theorem Compare_any(va vb:Value)(x y:Nat)(w:World)(ha:Rep W32 w va x)(hb:Rep W32 w vb y)(hx:x < W32 ^ 1000000000)(hy:y < W32 ^ 1000000000):
  Calls Tryz.prog 158 #[va,vb] w fun e w'=>e=.returned (.int .i64 (cmp3 x y))∧∃q,w'=w.drewN q:=by
 obtain⟨pa,na,ca,rfl,hca,hla,hsa⟩:=ha;obtain⟨pb,nb,cb,rfl,hcb,hlb,hsb⟩:=hb;have hna:=hla.le W32_pos hx;have hnb:=hlb.le W32_pos hy;clear hx hy
 by_cases hn:na=nb
 ·subst hn
  have hne:((na:Int) != (na:Int))=false:=by simp
  go_enter Tryz.func158,Tryz.ntmps158;go_wp2_with fail
  go_loopw [5] (fun i wr=>∃k q:Nat,k≤na∧i=.int .i64 ((k:Int) - 1)∧x / W32 ^ k=y / W32 ^ k∧wr=w.drewN q) (fun i _=>(intOf i+1).toNat)
  case atStart=>exact⟨na,0,by omega,rfl,by rw[div_pow_zero hla.1,div_pow_zero hlb.1],rfl⟩
  case round=>
   obtain⟨k,q,hk,rfl,he,rfl⟩:=hrel;have HE:Hid (x / W32 ^ k=y / W32 ^ k):=he;clear he
   rcases Nat.eq_zero_or_pos k with h0 | h0
   ·subst h0
    have hxy:x=y:=by simpa using HE.out
    subst hxy;clear hsa hsb HE;go_wp2_with fail
    go_ret
    exact⟨ret_i64 (cmp3_eq x).symm,q,rfl⟩
   ·obtain⟨t,rfl⟩:∃t,k=t+1:=⟨k - 1,by omega⟩;obtain⟨b1,o1,rfl,hc1⟩:=hsa (by omega);obtain⟨b2,o2,rfl,hc2⟩:=hsb (by omega);have hk1:=hc1 t (by omega);have hk2:=hc2 t (by omega)
    have e1:((t+1:Nat):Int) - 1=t:=by omega
    rw[e1];clear e1
    have HD:Hid (dg W32 x t≠dg W32 y t→cmp3 (dg W32 x t) (dg W32 y t)=cmp3 x y):=fun h=>cmp3_dg HE.out h
    have HQ:Hid (dg W32 x t=dg W32 y t→x / W32 ^ t=y / W32 ^ t):=fun h=>by
     have:=HE.out;show x / W32 ^ t=y / W32 ^ t;rw[div_succ,div_succ W32 y,h,this]
    clear hc1 hc2 hsa hsb HE;generalize dg W32 x t=d1 at *;generalize dg W32 y t=d2 at *
    by_cases hd:d1=d2
    ·subst hd
     have hf:((d1:Int) != (d1:Int))=false:=by simp
     go_wp2_with fail
     go_quiet (fail)
     go_wp2_with fail
     go_roundw
     case rel=>exact⟨t,_,by omega,rfl,HQ.out (by first | rfl | trivial),rfl⟩
     case measure=>simp [intOf]
    ·have hf:((d1:Int) != (d2:Int))=true:=by simp;omega
     go_wp2_with fail
     go_quiet (fail)
     go_wp2_with fail
     go_quiet ((go_at_call 174;exact quiet_gen (cmpU32_any d1 d2 _)))
     go_wp2_with fail
     go_ret
     exact⟨ret_i64 (HD.out hd),_,by rw[World.drewN_drewN,World.drewN_drewN]⟩
 ·rw[←cmp3_len hla hlb hn]
  have hne:((na:Int) != (nb:Int))=true:=by simp;omega
  have hcal:=cmpInt_any na nb w;clear hla hlb hsa hsb;go_enter Tryz.func158,Tryz.ntmps158;go_wp2_with fail;refine hcal.mono ?_;rintro e w' ⟨rfl,rfl⟩;clear hcal;go_wp2_with fail
  go_ret
  exact⟨rfl,0,rfl⟩
theorem or_join64(r a:Nat)(hr:r < 4294967296)(ha:a < 4294967296):bits .or .u64 ((r:Int)*4294967296) (a:Int)=((r*4294967296+a:Nat):Int):=by
 rw[show(r:Int)*4294967296=((r*4294967296:Nat):Int) by omega,u64_or_nat _ _ (by omega) (by omega),nat_join 32 _ _ (by omega) (by omega)]
theorem or_join64'(r a:Nat)(hr:r < 4294967296)(ha:a < 4294967296):bits .or .u64 (a:Int) ((r:Int)*4294967296)=((a+r*4294967296:Nat):Int):=by
 rw[show(r:Int)*4294967296=((r*4294967296:Nat):Int) by omega,u64_or_nat _ _ (by omega) (by omega),Nat.or_comm,nat_join 32 _ _ (by omega) (by omega),Nat.add_comm]
theorem divw_step{x d t q:Nat}(hd:0 < d)(hq:q=((x / W32 ^ (t+1)) % d*W32+dg W32 x t) / d):
  q < W32∧setd W32 (W32 ^ (t+1)*((x / W32 ^ (t+1)) / d)) t q=W32 ^ t*((x / W32 ^ t) / d)∧(x / W32 ^ t) % d=((x / W32 ^ (t+1)) % d*W32+dg W32 x t) % d:=by
 have hlt:q < W32:=by rw[hq];exact divw_lt hd (dg_lt W32_pos)
 refine⟨hlt,?_,?_⟩
 ·have h1:=setd_val W32 (W32 ^ (t+1)*((x / W32 ^ (t+1)) / d)) t q;rw[dg_mul_pow_lt W32_pos (Nat.lt_succ_self t),Nat.mul_zero,Nat.add_zero] at h1;rw[h1,div_succ W32 x t,divw_q hd,←hq,Nat.pow_succ,Nat.mul_add,Nat.mul_assoc]
 ·rw[div_succ W32 x t,divw_r]
theorem cast_join(R g:Nat):((R*4294967296+g:Nat):Int)=(R:Int)*4294967296+g:=by omega
theorem cast_quo(R g d:Nat):((((R*4294967296+g) / d:Nat)):Int)=((R:Int)*4294967296+g) / d:=by rw[Int.natCast_ediv,cast_join]
theorem cast_rem(R g d:Nat):((((R*4294967296+g) % d:Nat)):Int)=((R:Int)*4294967296+g) % d:=by rw[Int.natCast_emod,cast_join]
theorem cast_quo_small(R g d:Nat)(h:(R*4294967296+g) / d < 4294967296):(((R:Int)*4294967296+g) / d) % 4294967296=((((R*4294967296+g) / d:Nat)):Int):=by
 rw[←cast_quo];generalize(R*4294967296+g) / d=q at *;omega
theorem div_lt_pow{x d n:Nat}(h:x < W32 ^ n):x / d < W32 ^ n:=Nat.lt_of_le_of_lt (Nat.div_le_self x d) h
theorem divWord_any(va:Value)(x d:Nat)(w:World)(ha:Rep W32 w va x)(hx:x < W32 ^ 1000000000)(hd:0 < d)(hd2:d < 4294967296):
  Calls Tryz.prog 169 #[va,.int .u32 d] w fun e w'=>∃v,e=.returned (.tuple #[v,.int .u32 (x % d:Nat)])∧Rep W32 w' v (x / d)∧Bw w w':=by
 obtain⟨pa,na,ca,rfl,hca,hla,hsa⟩:=ha;have hna:=hla.le W32_pos hx;clear hx;have hmk:=Tryz.mk na (by omega);go_enter Tryz.func169,Tryz.ntmps169;go_wp2_with fail;clear hmk
 go_loopw [7,8] (fun r i wr=>∃k R Z:Nat,k≤na∧i=.int .i64 ((k:Int) - 1)∧r=.int .u64 R∧R < d∧R=(x / W32 ^ k) % d∧Z=W32 ^ k*((x / W32 ^ k) / d)∧Mk W32 w wr na Z) (fun _ i _=>(intOf i+1).toNat)
 case atStart=>exact⟨na,0,0,by omega,rfl,rfl,hd,by rw[div_pow_zero hla.1];simp,by rw[div_pow_zero hla.1];simp,Mk.start _ _ _⟩
 case round=>
  obtain⟨k,R,Z,hk,rfl,rfl,hRd,hR,hZ,hM⟩:=hrel
  rcases Nat.eq_zero_or_pos k with h0 | h0
  ·subst h0
   have HR:Hid (R=x % d):=by show R=x % d;simpa using hR
   have HZ:Hid (Z=x / d):=by show Z=x / d;simpa using hZ
   have hsl:=hM.slc;have hbel:=hM.bel
   have hZl:Z < W32 ^ na:=by rw[HZ.out];exact div_lt_pow hla.1
   clear hR hZ hM hsa;go_wp2_with fail;refine(Of_any _ _ _ Z _ (by omega) (Nat.le_refl _) hZl hsl).mono ?_;rintro e w' ⟨m,rfl,hm,hlen,rfl⟩;go_wp2_with fail
   go_ret2
   rw[←HZ.out,←HR.out];exact⟨_,rfl,⟨_,_,_,rfl,hm,hlen,hsl.take (by omega)⟩,hbel⟩
  ·obtain⟨t,rfl⟩:∃t,k=t+1:=⟨k - 1,by omega⟩;have hsa':=hsa.below hM.bel;obtain⟨b1,o1,rfl,hc1⟩:=hsa' (by omega);have hk1:=hc1 t (by omega)
   have e1:((t+1:Nat):Int) - 1=t:=by omega
   rw[e1];clear e1
   have HS:Hid (∀q,q=(R*W32+dg W32 x t) / d→q < W32∧setd W32 Z t q=W32 ^ t*((x / W32 ^ t) / d)∧(x / W32 ^ t) % d=(R*W32+dg W32 x t) % d):=fun q hq=>by
    rw[hR] at hq ⊢;rw[hZ];exact divw_step hd hq
   have hdx:=dg_u32 x t;have hor:=or_join64 R (dg W32 x t) (by omega) hdx;have hcell:=hM.cell (show t < na by omega);have hfrz:=hM.row.frozen t;clear hR hZ hc1 hsa;generalize dg W32 x t=g at *
   have hb1:R*4294967296+g < 18446744073709551616:=by omega
   go_wp2_with fail
   go_roundw
   case rel=>
    obtain⟨h1,h2,h3⟩:=HS.out _ rfl;have hs:=hM.set W32_pos t _ h1;rw[W32_val] at h1 h3 hs;refine⟨t,(R*4294967296+g) % d,_,by omega,rfl,congrArg (Value.int .u64) (cast_rem R g d).symm,Nat.mod_lt _ hd,h3.symm,h2,?_⟩
    first
     | (rw[cast_quo_small R g d h1];exact hs)
     | (rw[←cast_quo];exact hs)
   case measure=>simp [intOf]
/-! ### The low words -/
theorem low_val{x n:Nat}(h:x < W32 ^ n)(hn:n≤2):dg W32 x 0+dg W32 x 1*4294967296=x:=by
 have h2:x < W32 ^ 2:=Nat.lt_of_lt_of_le h (Nat.pow_le_pow_right W32_pos hn);have e1:=mod_succ W32 x 1;have e0:=mod_succ W32 x 0;simp only[Nat.pow_zero,Nat.mod_one,Nat.zero_add,Nat.one_mul,Nat.pow_one] at e0 e1;rw[Nat.mod_eq_of_lt h2,e0,Nat.mul_comm,W32_val] at e1;exact e1.symm
theorem low_any(va:Value)(x:Nat)(w:World)(ha:Rep W32 w va x)(hx:x < W32 ^ 2):
  Calls Tryz.prog 177 #[va] w fun e w'=>e=.returned (.int .u64 x)∧w=w':=by
 obtain⟨pa,na,ca,rfl,hca,hla,hsa⟩:=ha;have hna:=hla.le W32_pos hx;have hv:=low_val hla.1 hna;have h0:=word_any pa na ca x 0 w (by omega) (by omega) hla.1 hsa;have h1:=word_any pa na ca x 1 w (by omega) (by omega) hla.1 hsa;have d0:=dg_u32 x 0;have d1:=dg_u32 x 1;have hor:=or_join64' (dg W32 x 1) (dg W32 x 0) d1 d0;generalize dg W32 x 0=a at *;generalize dg W32 x 1=b at *;have HV:Hid (a+b*4294967296=x):=hv;clear hx hla hsa hv;go_enter Tryz.func177,Tryz.ntmps177;go_wp2_with fail;refine h0.mono ?_;rintro e w' ⟨rfl,rfl⟩;go_wp2_with fail;refine h1.mono ?_;rintro e w' ⟨rfl,rfl⟩;clear h0 h1;go_wp2_with fail
 go_ret
 exact⟨by rw[←HV.out];rfl,rfl⟩
theorem hid{p:Prop}(h:p):Hid p:=h
theorem pow_split(s t:Nat):2 ^ (32*s+t)=W32 ^ s*2 ^ t:=by rw[Nat.pow_add,←W32_pow]
theorem W32_mul(t:Nat)(ht:t < 32):W32=2 ^ t*2 ^ (32 - t):=by rw[←Nat.pow_add,show t+(32 - t)=32 by omega];rfl
theorem shl_step{x k s t g Z:Nat}(ht:t < 32)(hg:g=dg W32 x k)(hZ:Z=(x % W32 ^ k)*2 ^ (32*s+t)):
  g*2 ^ t < 18446744073709551616∧(dg W32 Z (k+s) ||| (g*2 ^ t % 4294967296))=dg W32 Z (k+s)+g*2 ^ t % 4294967296∧
  dg W32 Z (k+s)+g*2 ^ t % 4294967296 < W32∧g*2 ^ t / 4294967296 < W32∧
  setd W32 (setd W32 Z (k+s) (dg W32 Z (k+s)+g*2 ^ t % 4294967296)) (k+s+1) (g*2 ^ t / 4294967296)=(x % W32 ^ (k+1))*2 ^ (32*s+t):=by
 have hgl:g < 4294967296:=by rw[hg];exact dg_u32 x k
 have h2t:0 < 2 ^ t:=Nat.pow_pos (by omega);have h2t':2 ^ t≤2 ^ 31:=Nat.pow_le_pow_right (by omega) (by omega);have hy:g*2 ^ t≤4294967295*2147483648:=Nat.mul_le_mul (by omega) (by omega);have hW:=W32_mul t ht;have hP:0 < W32 ^ (k+s):=Nat.pow_pos W32_pos
 have hZ2:Z=W32 ^ s*((x % W32 ^ k)*2 ^ t):=by rw[hZ,pow_split];grind
 have hZlt:Z < W32 ^ (k+s)*2 ^ t:=by
  have h1:x % W32 ^ k < W32 ^ k:=Nat.mod_lt _ (Nat.pow_pos W32_pos);rw[hZ2,Nat.pow_add,Nat.mul_comm (W32 ^ k),Nat.mul_assoc];exact Nat.mul_lt_mul_of_pos_left (Nat.mul_lt_mul_of_pos_right h1 h2t) (Nat.pow_pos W32_pos)
 have hZlt2:Z < W32 ^ (k+s+1):=by
  have:W32 ^ (k+s)*2 ^ t≤W32 ^ (k+s)*W32:=Nat.mul_le_mul_left _ (by rw[W32_val];omega);rw[Nat.pow_succ];omega
 have hp:dg W32 Z (k+s) < 2 ^ t:=by
  rw[dg_top hZlt2];exact Nat.div_lt_of_lt_mul hZlt
 have hlo:(g*2 ^ t % 4294967296) % 2 ^ t=0:=by
  rw[←W32_val,hW,Nat.mul_comm g,Nat.mul_mod_mul_left,Nat.mul_mod_right]
 have hsum:dg W32 Z (k+s)+g*2 ^ t % 4294967296 < W32:=by
  have e:=Nat.div_add_mod (g*2 ^ t % 4294967296) (2 ^ t);rw[hlo,Nat.add_zero] at e
  have hq:g*2 ^ t % 4294967296 < 2 ^ t*2 ^ (32 - t):=by rw[←hW,W32_val];exact Nat.mod_lt _ (by omega)
  rw[←e] at hq;have hq2:=Nat.lt_of_mul_lt_mul_left hq;have:2 ^ t*(g*2 ^ t % 4294967296 / 2 ^ t+1)≤2 ^ t*2 ^ (32 - t):=Nat.mul_le_mul_left _ hq2;rw[Nat.mul_add,e,←hW] at this;omega
 have hhi:g*2 ^ t / 4294967296 < W32:=by rw[W32_val];omega
 refine⟨by omega,?_,hsum,hhi,?_⟩
 ·rw[Nat.or_comm,nat_join t _ _ hlo hp,Nat.add_comm]
 ·have v1:=setd_val W32 Z (k+s) (dg W32 Z (k+s)+g*2 ^ t % 4294967296);have v2:=setd_val W32 (setd W32 Z (k+s) (dg W32 Z (k+s)+g*2 ^ t % 4294967296)) (k+s+1) (g*2 ^ t / 4294967296);rw[dg_setd W32_pos hsum,if_neg (by omega),dg_zero hZlt2,Nat.mul_zero,Nat.add_zero] at v2;rw[Nat.mul_add] at v1;rw[v2,mod_succ,Nat.add_mul,←hZ,←hg,pow_split]
  have e3:W32 ^ k*g*(W32 ^ s*2 ^ t)=W32 ^ (k+s)*(g*2 ^ t):=by rw[Nat.pow_add];grind
  have e4:W32 ^ (k+s)*(g*2 ^ t)=W32 ^ (k+s)*(g*2 ^ t % 4294967296)+W32 ^ (k+s+1)*(g*2 ^ t / 4294967296):=by
   have:=Nat.mod_add_div (g*2 ^ t) 4294967296;rw[Nat.pow_succ,Nat.mul_assoc,←Nat.mul_add,W32_val,this]
  rw[e3,e4];omega
theorem u64_pow(g t:Nat)(h:g*2 ^ t < 18446744073709551616):IntKind.u64.wrap ((g:Int)*2 ^ t)=((g*2 ^ t:Nat):Int):=by
 rw[u64_mod,show(g:Int)*2 ^ t=((g*2 ^ t:Nat):Int) by push_cast;first | done | rfl];omega
theorem Shl_any(va:Value)(x n:Nat)(w:World)(ha:Rep W32 w va x)(hx:x < W32 ^ 1000000000)(hn:n≤1000000000):
  Calls Tryz.prog 150 #[va,.int .i64 n] w fun e w'=>∃v,e=.returned v∧Rep W32 w' v (x*2 ^ n)∧Bw w w':=by
 obtain⟨pa,na,ca,rfl,hca,hla,hsa⟩:=ha;have hna:=hla.le W32_pos hx;clear hx
 by_cases hn0:n=0
 ·subst hn0;go_enter Tryz.func150,Tryz.ntmps150;go_wp2_with fail
  go_ret
  exact⟨_,rfl,⟨_,_,_,rfl,hca,by simpa using hla,by simpa using hsa⟩,Below.refl _ _⟩
 ·have hnz:((n:Int) == 0)=false:=by simp;omega
  rcases Nat.eq_zero_or_pos na with h0 | h0
  ·subst h0;go_enter Tryz.func150,Tryz.ntmps150;go_wp2_with fail
   go_ret
   obtain rfl:=hla.eq_zero;exact⟨_,rfl,⟨_,_,_,rfl,hca,by simpa using hla,by simpa using hsa⟩,Below.refl _ _⟩
  ·have hnaz:((na:Int) == 0)=false:=by simp;omega
   obtain⟨s,t,hst,ht⟩:∃s t,n=32*s+t∧t < 32:=⟨n / 32,n % 32,by omega,by omega⟩
   have hs1:s≤1000000000:=by omega
   have hq:(n:Int) / 32=(s:Int):=by omega
   have hr:(n:Int) % 32=(t:Int):=by omega
   have Hst:Hid (n=32*s+t):=hst;clear hst;have hmk:=Tryz.mk (na+s+1) (by omega);simp only[Int.natCast_add,Int.cast_ofNat_Int] at hmk;go_enter Tryz.func150,Tryz.ntmps150;go_wp2_with fail;clear hmk hq hr hnaz
   go_loopw [31] (fun i wr=>∃k Z:Nat,k≤na∧i=.int .i64 k∧Z=(x % W32 ^ k)*2 ^ n∧Mk W32 w wr (na+s+1) Z) (fun i _=>na - (intOf i).toNat)
   case atStart=>exact⟨0,0,by omega,rfl,by simp [Nat.mod_one],Mk.start _ _ _⟩
   case round=>
    obtain⟨k,Z,hk,rfl,hZ,hM⟩:=hrel
    by_cases hlt:k < na
    ·have hsa':=hsa.below hM.bel;obtain⟨b1,o1,rfl,hc1⟩:=hsa' (by omega);have hk1:=hc1 k (by omega);have hdx:=dg_u32 x k;have hcell:=hM.cell (show k+s < na+s+1 by omega);have hfrz:=hM.row.frozen (k+s);have hfrz2:=hM.row.frozen (k+s+1);have hcell2:=hM.cell (show k+s+1 < na+s+1 by omega);have HS:=hid (shl_step (Z:=Z) (s:=s) ht (rfl:dg W32 x k=dg W32 x k) (by rw[←Hst.out];exact hZ));have hpx:=dg_u32 Z (k+s)
     have hnt:n % 32=t:=by have:=Hst.out;omega
     have Hnt:Hid (n % 32=t):=hnt;clear hZ hc1 hsa hnt;generalize dg W32 x k=g at *;go_wp2_with fail
     go_roundw
     case rel=>
      obtain⟨h1,h2,h3,h4,h5⟩:=HS.out;refine⟨k+1,_,by omega,by go_num,rfl,?_⟩;have hset:=(hM.set W32_pos (k+s) _ h3).set W32_pos (k+s+1) _ h4;rw[h5,←Hst.out] at hset
      rw[Hnt.out,u64_pow g t h1,show(((g*2 ^ t:Nat):Int)) % 4294967296=((g*2 ^ t % 4294967296:Nat):Int) by omega,
       show(((g*2 ^ t:Nat):Int)) / 4294967296 % 4294967296=((g*2 ^ t / 4294967296:Nat):Int) by omega,
       u32_or_nat _ _ hpx (Nat.mod_lt _ (by omega)),h2]
      exact hset
     case measure=>simp [intOf];omega
    ·have hk':k=na:=by omega
     subst hk';rw[Nat.mod_eq_of_lt hla.1] at hZ
     have hZl:Z < W32 ^ (k+s+1):=by
      rw[hZ,Hst.out,pow_split,show k+s+1=k+(s+1) by omega];refine mul_lt hla.1 ?_;rw[Nat.pow_succ];exact Nat.mul_lt_mul_of_pos_left (by rw[W32_val];exact Nat.pow_lt_pow_right (by omega) ht) (Nat.pow_pos W32_pos)
     have HZ:Hid (Z=x*2 ^ n):=hZ;have hsl:=hM.slc;have hbel:=hM.bel;clear hZ hM hsa;go_wp2_with fail;refine(Of_any _ _ _ Z _ (by omega) (Nat.le_refl _) hZl hsl).mono ?_;rintro e w' ⟨m,rfl,hm,hlen,rfl⟩;go_wp2_with fail
     go_ret
     rw[←HZ.out];exact⟨_,rfl,⟨_,_,_,rfl,hm,hlen,hsl.take (by omega)⟩,hbel⟩
theorem Mk.drewN{B:Nat}{w wr:World}{N X:Nat}(h:Mk B w wr N X)(n:Nat):Mk B w (wr.drewN n) N X:=⟨below_drewN h.bel n,h.row⟩
theorem shr_step{x k s t:Nat}(ht:t < 32):dg W32 (x / 2 ^ (32*s+t)) k=((dg W32 x (k+s)+dg W32 x (k+s+1)*4294967296) / 2 ^ t) % 4294967296:=by
 have hW:=W32_mul t ht
 have e:dg W32 (x / 2 ^ (32*s+t)) k=(x / W32 ^ (k+s)) / 2 ^ t % W32:=by
  unfold dg;rw[pow_split,Nat.div_div_eq_div_mul,Nat.div_div_eq_div_mul]
  congr 2
  rw[Nat.pow_add];grind
 rw[e,dg_shr hW];unfold dg;rw[Nat.div_div_eq_div_mul,←Nat.pow_succ,W32_val,Nat.mul_comm 4294967296]
theorem or_join64i(r a:Nat)(hr:r < 4294967296)(ha:a < 4294967296):bits .or .u64 (a:Int) ((r:Int)*4294967296)=(a:Int)+(r:Int)*4294967296:=by
 rw[or_join64' r a hr ha];omega
theorem cast_shr(a b t:Nat):((a:Int)+(b:Int)*4294967296) / 2 ^ t % 4294967296=((((a+b*4294967296) / 2 ^ t) % 4294967296:Nat):Int):=by
 have e:(a:Int)+(b:Int)*4294967296=((a+b*4294967296:Nat):Int):=by omega
 have e2:(2:Int) ^ t=((2 ^ t:Nat):Int):=by rw[Int.natCast_pow];rfl
 rw[e,e2,←Int.natCast_ediv];omega
theorem div_pow_lt{x na s t:Nat}(h:x < W32 ^ na)(hs:s≤na):x / 2 ^ (32*s+t) < W32 ^ (na - s):=by
 rw[pow_split,←Nat.div_div_eq_div_mul];refine Nat.lt_of_le_of_lt (Nat.div_le_self _ _) (Nat.div_lt_of_lt_mul ?_)
 rwa [←Nat.pow_add,Nat.add_sub_cancel' hs]
theorem Shr_any(va:Value)(x n:Nat)(w:World)(ha:Rep W32 w va x)(hx:x < W32 ^ 1000000000)(hn:n≤1000000000000):
  Calls Tryz.prog 166 #[va,.int .i64 n] w fun e w'=>∃v,e=.returned v∧Rep W32 w' v (x / 2 ^ n)∧Bw w w':=by
 obtain⟨pa,na,ca,rfl,hca,hla,hsa⟩:=ha;have hna:=hla.le W32_pos hx;clear hx
 by_cases hn0:n=0
 ·subst hn0;go_enter Tryz.func166,Tryz.ntmps166;go_wp2_with fail
  go_ret
  exact⟨_,rfl,⟨_,_,_,rfl,hca,by simpa using hla,by simpa using hsa⟩,Below.refl _ _⟩
 ·have hnz:((n:Int) == 0)=false:=by simp;omega
  obtain⟨s,t,hst,ht⟩:∃s t,n=32*s+t∧t < 32:=⟨n / 32,n % 32,by omega,by omega⟩
  have hq:(n:Int) / 32=(s:Int):=by omega
  have Hst:Hid (n=32*s+t):=hst
  have hs1:s≤1000000000000:=by omega
  clear hst
  by_cases hsk:na≤s
  ·have h0:x / 2 ^ n=0:=by
    rw[Hst.out,pow_split];refine Nat.div_eq_of_lt (Nat.lt_of_lt_of_le hla.1 ?_);refine Nat.le_trans (Nat.pow_le_pow_right W32_pos hsk) ?_;exact Nat.le_mul_of_pos_right _ (Nat.pow_pos (by omega))
   rw[h0];clear hsa hla h0;go_enter Tryz.func166,Tryz.ntmps166;go_wp2_with fail
   go_ret
   exact⟨_,rfl,Rep.nil,Below.refl _ _⟩
  ·have hmk:=Tryz.mk (na - s) (by omega);rw[Int.ofNat_sub (by omega)] at hmk
   have hxd:x / 2 ^ n < W32 ^ (na - s):=by rw[Hst.out];exact div_pow_lt hla.1 (by omega)
   have Hxd:Hid (x / 2 ^ n < W32 ^ (na - s)):=hxd;clear hxd;go_enter Tryz.func166,Tryz.ntmps166;go_wp2_with fail;clear hmk hq
   go_loopw [28] (fun i wr=>∃k Z:Nat,k≤na - s∧i=.int .i64 k∧Z=(x / 2 ^ n) % W32 ^ k∧Mk W32 w wr (na - s) Z) (fun i _=>na - s - (intOf i).toNat)
   case atStart=>exact⟨0,0,by omega,rfl,by simp [Nat.mod_one],Mk.start _ _ _⟩
   case round=>
    obtain⟨k,Z,hk,rfl,hZ,hM⟩:=hrel
    by_cases hlt:k < na - s
    ·have hsa':=hsa.below hM.bel
     have hwb:=fun q=>word_any pa na ca x (k+s+1) (wr.drewN q) (by omega) (by omega) hla.1 (hsa'.below (below_drewN (Below.refl _ _) q))
     obtain⟨b1,o1,rfl,hc1⟩:=hsa' (by omega);have hk1:=hc1 (k+s) (by omega);have hk1':wr.cell? ⟨b1,o1+(k+s),none⟩=some (.int .u32 (dg W32 x (k+s):Nat)):=hk1;have hdx:=dg_u32 x (k+s);have hdy:=dg_u32 x (k+s+1);have hor:=or_join64i (dg W32 x (k+s+1)) (dg W32 x (k+s)) hdy hdx;have hcell:=hM.cell (show k < na - s by omega);have hfrz:=hM.row.frozen k;have HS:=hid (shr_step (x:=x) (k:=k) (s:=s) ht)
     have hZl:Z < W32 ^ k:=by rw[hZ];exact Nat.mod_lt _ (Nat.pow_pos W32_pos)
     have HN:=hid (mod_succ W32 (x / 2 ^ n) k);have HZ:=hid hZ;have HZl:=hid hZl
     have hnt:n % 32=t:=by have:=Hst.out;omega
     have Hnt:=hid hnt;have Hwb:=hid hwb;clear hZ hc1 hsa hnt hk1 hZl hwb hla;generalize dg W32 x (k+s)=a at *;generalize dg W32 x (k+s+1)=b at *;go_wp2_with fail
     go_quiet ((go_at_call 173;exact quiet_gen (Hwb.out _)))
     go_wp2_with fail
     go_roundw
     case rel=>
      refine⟨k+1,Z+W32 ^ k*(((a+b*4294967296) / 2 ^ t) % 4294967296),by omega,by go_num,?_,?_⟩
      ·rw[HN.out,HZ.out,←HS.out,←Hst.out]
      ·refine(hM.drewN _).push W32_pos HZl.out (by rw[W32_val];exact Nat.mod_lt _ (by omega)) ?_;rw[Hnt.out];exact cast_shr a b t
     case measure=>simp [intOf];omega
    ·have hk':k=na - s:=by omega
     subst hk'
     have hZ':Z=x / 2 ^ n:=by rw[hZ,Nat.mod_eq_of_lt Hxd.out]
     have hZl:Z < W32 ^ (na - s):=by rw[hZ'];exact Hxd.out
     have HZ:=hid hZ';have hsl:=hM.slc;have hbel:=hM.bel;clear hZ hM hsa hZ';go_wp2_with fail;refine(Of_any _ _ _ Z _ (by omega) (Nat.le_refl _) hZl hsl).mono ?_;rintro e w' ⟨m,rfl,hm,hlen,rfl⟩;go_wp2_with fail
     go_ret
     rw[←HZ.out];exact⟨_,rfl,⟨_,_,_,rfl,hm,hlen,hsl.take (by omega)⟩,hbel⟩
end Go.Proofs.YteblinkehldghaaGreatDoor
