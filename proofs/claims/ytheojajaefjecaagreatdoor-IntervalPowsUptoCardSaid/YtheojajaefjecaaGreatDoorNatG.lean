/- The natural numbers of the program: binary digits. -/
import Derived.Test.YtheojajaefjecaaGreatDoorNatE
import Derived.Test.YtheojajaefjecaaGreatDoorLen32
import Derived.Laws.BitsAllLaws
namespace Go.Proofs.YtheojajaefjecaaGreatDoor
open Go.RowKit Dg
theorem Len32_any(x:Nat)(w:World)(hx:x < 4294967296):
  Calls Tryz.prog 239 #[.int .u32 x] w fun e w'=>e=.returned (.int .i64 (Lib.bitLen x))∧w=w':=
 Len32_int x w (by omega) (by omega)
theorem bitLen_len:∀(k x:Nat),x < 2 ^ k→k≤64→Len 2 x (Lib.bitLen x)
 | 0,x,hx,_=>by
  obtain rfl:x=0:=by simpa using hx
  exact Len.zero
 | k+1,x,hx,hk=>by
  by_cases h0:x=0
  ·subst h0;exact Len.zero
  ·have h64:x < 2 ^ 64:=Nat.lt_of_lt_of_le hx (Nat.pow_le_pow_right (by omega) hk);have ih:=bitLen_len k (x / 2) (by rw[Nat.pow_succ] at hx;omega) (by omega);rw[Lib.bitLen_half x h0 h64,Nat.add_comm];refine⟨by have:=ih.1;rw[Nat.pow_succ];omega,fun _=>?_⟩;simp only[Nat.add_sub_cancel]
   rcases Nat.eq_zero_or_pos (Lib.bitLen (x / 2)) with hb | hb
   ·rw[hb];simp;omega
   ·have:=ih.2 hb;obtain⟨c,hc⟩:∃c,Lib.bitLen (x / 2)=c+1:=⟨Lib.bitLen (x / 2) - 1,by omega⟩;rw[hc] at this ⊢;simp only[Nat.add_sub_cancel] at this;rw[Nat.pow_succ];omega
theorem LeadingZeros32_any(x:Nat)(w:World)(hx:x < 4294967296):
  Calls Tryz.prog 234 #[.int .u32 x] w fun e w'=>∃b:Nat,e=.returned (.int .i64 ((32:Int) - b))∧b≤32∧Len 2 x b∧w=w':=by
 have hl:=bitLen_len 32 x (by omega) (by omega);have h32:Lib.bitLen x≤32:=hl.le (by omega) (show x < 2 ^ 32 by omega);have hc:=Len32_any x w hx;generalize Lib.bitLen x=b at *;have HL:Hid (Len 2 x b):=hl;clear hl;go_enter Tryz.func234,Tryz.ntmps234;go_wp2_with fail;refine hc.mono ?_;rintro e w' ⟨rfl,rfl⟩;clear hc;go_wp2_with fail
 go_ret
 exact⟨b,rfl,h32,HL.out,rfl⟩
theorem len_up{x k b:Nat}(h:Len 2 (x / 2 ^ k) b)(hb:0 < b):Len 2 x (k+b):=by
 refine⟨?_,fun _=>?_⟩
 ·have h1:=h.1;rw[Nat.div_lt_iff_lt_mul (Nat.pow_pos (by omega)),←Nat.pow_add,Nat.add_comm b k] at h1;exact h1
 ·have h2:=h.2 hb;rw[Nat.le_div_iff_mul_le (Nat.pow_pos (by omega)),←Nat.pow_add] at h2;rw[show k+b - 1=b - 1+k by omega];exact h2
theorem W32_pow(k:Nat):W32 ^ k=2 ^ (32*k):=by rw[Nat.pow_mul];rfl
theorem Bits_any(v:Value)(x:Nat)(w:World)(h:Rep W32 w v x)(hx:x < W32 ^ 1000000000):
  Calls Tryz.prog 222 #[v] w fun e w'=>∃b:Nat,e=.returned (.int .i64 b)∧Len 2 x b∧w=w':=by
 obtain⟨p,n,cap,rfl,_,hl,hs⟩:=h;have hn:=hl.le W32_pos hx;clear hx
 rcases Nat.eq_zero_or_pos n with h0 | h0
 ·subst h0;obtain rfl:=hl.eq_zero;clear hl hs;go_enter Tryz.func222,Tryz.ntmps222;go_wp2_with fail
  go_ret
  exact⟨0,rfl,Len.zero,rfl⟩
 ·obtain⟨k,rfl⟩:∃k,n=k+1:=⟨n - 1,by omega⟩;obtain⟨b,off,rfl,hc⟩:=hs (by omega);have hck:=hc k (by omega)
  have ht:dg W32 x k=x / 2 ^ (32*k):=by rw[dg_top hl.1,W32_pow]
  have h1:=dg_u32 x k;have hne:=hl.top W32_pos h0;simp only[Nat.add_sub_cancel] at hne;have HT:Hid (dg W32 x k=x / 2 ^ (32*k)):=ht;clear ht hc hs hl;have hcal:=LeadingZeros32_any (dg W32 x k) w h1;generalize dg W32 x k=t at *
  have hz:((((k+1:Nat):Int)) == 0)=false:=by simp;omega
  go_enter Tryz.func222,Tryz.ntmps222;go_wp2_with fail;refine hcal.mono ?_;rintro e w' ⟨b,rfl,hb,hlen,rfl⟩;have Hl:Hid (Len 2 t b):=hlen;clear hcal hlen;go_wp2_with fail
  go_ret
  have hb0:0 < b:=by
   rcases Nat.eq_zero_or_pos b with h | h
   ·subst h;exact absurd Hl.out.eq_zero hne
   ·exact h
  refine⟨32*k+b,ret_i64 (by omega),len_up (by rw[←HT.out];exact Hl.out) hb0,rfl⟩
theorem below_drewN{B:Nat}{a w:World}(h:Below B a w)(n:Nat):Below B a (w.drewN n):=h.trans ⟨rfl,rfl,rfl,Nat.le_refl _,fun _ _=>rfl⟩
/-! ### The last bit of a word -/
theorem odd_and:∀(k m:Nat),m < 2 ^ k→m % 2=1→m &&& (2 ^ k - m)=1:=by
 intro k m hm hodd;obtain⟨a,rfl⟩:∃a,m=2*a+1:=⟨m / 2,by omega⟩
 obtain⟨j,rfl⟩:∃j,k=j+1:=⟨k - 1,by
  rcases Nat.eq_zero_or_pos k with h | h
  ·subst h;simp at hm
  ·omega⟩
 have ha:a < 2 ^ j:=by rw[Nat.pow_succ] at hm;omega
 apply Nat.eq_of_testBit_eq;intro i;rw[Nat.testBit_and];rw[show 2 ^ (j+1) - (2*a+1)=2 ^ (j+1) - (2*a+1) from rfl]
 cases i with
 | zero=>
  have h2:(2 ^ (j+1) - (2*a+1)) % 2=1:=by rw[Nat.pow_succ] at *;omega
  simp [Nat.testBit_zero,h2]
 | succ i=>
  have h3:(2 ^ (j+1) - (2*a+1)) / 2=2 ^ j - (a+1):=by rw[Nat.pow_succ] at *;omega
  rw[Nat.testBit_succ,Nat.testBit_succ,Nat.testBit_succ,h3,Nat.testBit_two_pow_sub_succ ha];rw[show(2*a+1) / 2=a by omega]
  have h4:Nat.testBit (1 / 2) i=false:=by simp
  rw[h4]
  cases a.testBit i<;>simp
theorem scale_and(z a b:Nat):(2 ^ z*a) &&& (2 ^ z*b)=2 ^ z*(a &&& b):=by
 apply Nat.eq_of_testBit_eq;intro i;rw[Nat.testBit_and,Nat.testBit_two_pow_mul,Nat.testBit_two_pow_mul,Nat.testBit_two_pow_mul,Nat.testBit_and]
 cases decide (i ≥ z)<;>simp
theorem and_neg{z m:Nat}(hz:z≤32)(h:2 ^ z*m < 4294967296)(hm:m % 2=1):(2 ^ z*m) &&& (4294967296 - 2 ^ z*m)=2 ^ z:=by
 have e:4294967296=2 ^ z*2 ^ (32 - z):=by rw[←Nat.pow_add,show z+(32 - z)=32 by omega]
 have hlt:m < 2 ^ (32 - z):=by
  rw[e] at h;exact Nat.lt_of_mul_lt_mul_left h
 rw[e,←Nat.mul_sub,scale_and,odd_and _ _ hlt hm,Nat.mul_one]
def tzTab (k:Nat):Nat:=[0,1,28,2,29,14,24,3,30,22,20,15,25,17,4,8,31,27,13,23,21,19,16,7,26,12,18,6,11,5,10,9].getD k 0
def TabOk (w:World):Prop:=∀k,k < 32→w.cell? ⟨0,k,none⟩=some (.int .u8 (tzTab k:Nat))
theorem TabOk.below{w w':World}(h:TabOk w)(hb:Bw w w'):TabOk w':=fun k hk=>by
 rw[hb.cell (p:=⟨0,k,none⟩) (World.block_lt_of_cell? _ _ (h k hk))];exact h k hk
theorem deBruijn:∀z:Fin 32,(2 ^ z.val*125613361 % 4294967296) / 134217728 < 32∧tzTab ((2 ^ z.val*125613361 % 4294967296) / 134217728)=z.val:=by decide+kernel
def Tz (x z:Nat):Prop:=∃m,x=2 ^ z*m∧m % 2=1
theorem Tz.exists:∀{x:Nat},0 < x→∃z,Tz x z:=by
 intro x
 induction x using Nat.strongRecOn with
 | _ x ih=>
  intro hx
  by_cases h:x % 2=1
  ·exact⟨0,x,by simp,h⟩
  ·obtain⟨z,m,hm,ho⟩:=ih (x / 2) (by omega) (by omega);exact⟨z+1,m,by rw[Nat.pow_succ];grind,ho⟩
theorem neg_mod(x:Nat)(hx:x < 4294967296)(h0:0 < x):(-(x:Int)) % 4294967296=((4294967296 - x:Nat):Int):=by omega
set_option maxRecDepth 100000 in
theorem TrailingZeros32_walk(x P k z:Nat)(w:World)(hne:((x:Int) == 0)=false)(hk:k < 32)(hz:z < 32)
  (hb:bits .and .u32 (x:Int) (-(x:Int) % 4294967296)=(P:Int))(hi:(P:Int)*125613361 % 4294967296 / 134217728=(k:Int))
  (hc:w.cell? ⟨0,k,none⟩=some (.int .u8 (z:Nat))):
  Calls Tryz.prog 231 #[.int .u32 x] w fun e w'=>e=.returned (.int .i64 z)∧w=w':=by
 go_enter Tryz.func231,Tryz.ntmps231;go_wp2_with fail
 go_ret
 exact⟨rfl,rfl⟩
theorem TrailingZeros32_any(x:Nat)(w:World)(hx:x < 4294967296)(h0:0 < x)(ht:TabOk w):
  Calls Tryz.prog 231 #[.int .u32 x] w fun e w'=>∃z:Nat,e=.returned (.int .i64 z)∧z < 32∧Tz x z∧w=w':=by
 obtain⟨z,m,hm,ho⟩:=Tz.exists h0
 have hz:z < 32:=by
  rcases Nat.lt_or_ge z 32 with h | h
  ·exact h
  ·have h1:2 ^ 32≤2 ^ z:=Nat.pow_le_pow_right (by omega) h;have h2:2 ^ z*1≤2 ^ z*m:=Nat.mul_le_mul_left _ (by omega);omega
 have hb:bits .and .u32 (x:Int) (-(x:Int) % 4294967296)=((2 ^ z:Nat):Int):=by
  rw[neg_mod x hx h0,u32_and_nat _ _ hx (by omega),hm,and_neg (by omega) (by rw[←hm];exact hx) ho]
 obtain⟨hk,hv⟩:=deBruijn ⟨z,hz⟩;have hc:=ht _ hk;rw[hv] at hc;refine(TrailingZeros32_walk x (2 ^ z) _ z w (by simp;omega) hk hz hb ?_ hc).mono ?_
 ·show((2 ^ z:Nat):Int)*125613361 % 4294967296 / 134217728=_;generalize 2 ^ z=P;omega
 ·rintro e w' ⟨rfl,rfl⟩;exact⟨z,rfl,hz,⟨m,hm,ho⟩,rfl⟩
theorem tz_word{x k z:Nat}(h:x % W32 ^ k=0)(hz:z < 32)(ht:Tz (dg W32 x k) z):Tz x (32*k+z):=by
 obtain⟨m,hm,ho⟩:=ht;have h1:=Nat.mod_add_div x (W32 ^ k);rw[h,Nat.zero_add,div_succ W32 x k,hm] at h1;refine⟨m+2 ^ (32 - z)*(x / W32 ^ (k+1)),?_,?_⟩
 ·have e:W32=2 ^ z*2 ^ (32 - z):=by rw[←Nat.pow_add,show z+(32 - z)=32 by omega];rfl
  have e2:2 ^ (32*k+z)=W32 ^ k*2 ^ z:=by rw[Nat.pow_add,←W32_pow]
  rw[e2];generalize x / W32 ^ (k+1)=q at *;generalize W32 ^ k=P at *;rw[←h1,e];grind
 ·obtain⟨t,ht⟩:∃t,32 - z=t+1:=⟨31 - z,by omega⟩;rw[ht,Nat.pow_succ,Nat.mul_right_comm,Nat.mul_comm _ 2];omega
set_option maxRecDepth 100000 in
theorem Zeros_any(v:Value)(x:Nat)(w:World)(h:Rep W32 w v x)(hx:x < W32 ^ 1000000000)(h0:0 < x)(ht:TabOk w):
  Calls Tryz.prog 219 #[v] w fun e w'=>∃z:Nat,e=.returned (.int .i64 z)∧Tz x z∧w=w':=by
 obtain⟨p,n,cap,rfl,_,hl,hs⟩:=h;have hn:=hl.le W32_pos hx;clear hx;go_enter Tryz.func219,Tryz.ntmps219;go_wp2_with fail
 go_loop [7] (fun i=>∃k:Nat,k≤n∧i=.int .i64 k∧x % W32 ^ k=0) (fun i=>n - (intOf i).toNat)
 case atStart=>exact⟨0,by omega,rfl,by simp [Nat.mod_one]⟩
 case round=>
  obtain⟨k,hk,rfl,hm⟩:=hrel;have HM:Hid (x % W32 ^ k=0):=hm;clear hm
  by_cases hlt:k < n
  ·obtain⟨b,off,rfl,hc⟩:=hs (by omega);have hck:=hc k hlt;have hd:=dg_u32 x k;have HS:Hid (x % W32 ^ (k+1)=x % W32 ^ k+W32 ^ k*dg W32 x k):=mod_succ _ _ _
   have HT:Hid (∀z,z < 32→Tz (dg W32 x k) z→Tz x (32*k+z)):=fun z hz ht=>tz_word HM.out hz ht
   clear hc hs;generalize dg W32 x k=d at *
   by_cases hd0:d=0
   ·subst hd0;go_wp2_with fail
    go_round
    case rel=>exact⟨k+1,by omega,by go_num,by rw[HS.out,HM.out];simp⟩
    case measure=>simp [intOf];omega
   ·have hne:((d:Int) != 0)=true:=by simp;omega
    have hne':((d:Int) == 0)=false:=by simp;omega
    have hcal:=TrailingZeros32_any d w hd (by omega) ht;clear ht;go_wp2_with fail;refine hcal.mono ?_;rintro e w' ⟨z,rfl,hz,htz,rfl⟩;have HZ:Hid (Tz d z):=htz;clear hcal htz;go_wp2_with fail
    go_ret
    exact⟨32*k+z,ret_i64 (by omega),HT.out z hz HZ.out,rfl⟩
  ·exfalso
   have hk':k=n:=by omega
   subst hk';have:=HM.out;rw[Nat.mod_eq_of_lt hl.1] at this;omega
end Go.Proofs.YtheojajaefjecaaGreatDoor
