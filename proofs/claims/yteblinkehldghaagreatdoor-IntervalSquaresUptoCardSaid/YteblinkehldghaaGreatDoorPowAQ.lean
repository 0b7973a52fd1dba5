/- Numbers of the program: unary, binary, change, combine, FromInt. -/
import Derived.Test.YteblinkehldghaaGreatDoorBase
import Derived.Test.YteblinkehldghaaGreatDoorFracA
import Derived.Test.YteblinkehldghaaGreatDoorFracX
import Derived.Test.YteblinkehldghaaGreatDoorLen32
import Derived.Test.YteblinkehldghaaGreatDoorNatB
import Derived.Test.YteblinkehldghaaGreatDoorNatE
import Derived.Test.YteblinkehldghaaGreatDoorNatK
import Derived.Test.YteblinkehldghaaGreatDoorNatR
import Derived.Test.YteblinkehldghaaGreatDoorNatU
import Derived.Test.YteblinkehldghaaGreatDoorNatW
import Derived.Test.YteblinkehldghaaGreatDoorNumX
set_option maxHeartbeats 4000000
set_option maxRecDepth 100000
namespace Go.Proofs.YteblinkehldghaaGreatDoor
open Go.RowKit Dg
open And renaming intro→Ai
open Nat renaming le_refl→Lr
open Go.RowKit.Below renaming refl→Br
theorem len8_tab:∀(x:Fin 256) (h:x.val < Lib.len8tab.size),wrap64 (wrap64 ((Lib.len8tab[x.val]'h).toNat:Int))=((Lib.bitLen x.val:Nat):Int):=by decide+kernel
theorem and_one:∀m:Fin 256,bits BinOp.and IntKind.i64 ((m.val:Nat):Int) 1=((m.val % 2:Nat):Int):=by decide+kernel
theorem bit_one{n t:Nat}(hn:n < 256):(bits BinOp.and IntKind.i64 ((n:Int) / 2 ^ t) 1 == 1)=decide (n / 2 ^ t % 2=1):=by
 have e:((n:Int) / 2 ^ t)=((n / 2 ^ t:Nat):Int):=by push_cast;rfl
 have hlt:n / 2 ^ t < 256:=Nat.lt_of_le_of_lt (Nat.div_le_self _ _) hn;rw[e,and_one ⟨n / 2 ^ t,hlt⟩];simp only
 by_cases h:n / 2 ^ t % 2=1
 ·rw[h];rfl
 ·have h0:n / 2 ^ t % 2=0:=by omega
  rw[h0];rfl
theorem Len64_small(x:Nat)(w:World)(hx:x < 256):
  Calls Tryz.prog 183 #[.int .u64 x] w fun e w'=>e=.returned (.int .i64 (Lib.bitLen x))∧w=w':=by
 have h1:decide ((4294967296:Int)≤(x:Int))=false:=decide_eq_false (by omega);have h2:decide ((65536:Int)≤(x:Int))=false:=decide_eq_false (by omega);have h3:decide ((256:Int)≤(x:Int))=false:=decide_eq_false (by omega);have h4:decide (4294967296≤x)=false:=decide_eq_false (by omega);have h5:decide (65536≤x)=false:=decide_eq_false (by omega);have h6:decide (256≤x)=false:=decide_eq_false (by omega);go_enter Tryz.func183,Tryz.ntmps183;go_wp2_with fail
 go_ret
 exact⟨ret_i64 (len8_tab ⟨x,hx⟩ _),rfl⟩
theorem Len_small(x:Nat)(w:World)(hx:x < 256):
  Calls Tryz.prog 172 #[.int .u64 x] w fun e w'=>e=.returned (.int .i64 (Lib.bitLen x))∧w=w':=by
 have hc:=Len64_small x w hx;generalize Lib.bitLen x=b at *;go_enter Tryz.func172,Tryz.ntmps172;go_wp2_with fail;refine hc.mono ?_;rintro e w' ⟨rfl,rfl⟩;go_wp2_with fail
 go_ret
 exact⟨rfl,rfl⟩
theorem pow_step(x n j:Nat):x ^ (n / 2 ^ j)=(x ^ (n / 2 ^ (j+1))*x ^ (n / 2 ^ (j+1)))*x ^ (n / 2 ^ j % 2):=by
 have e:n / 2 ^ (j+1)=n / 2 ^ j / 2:=by rw[Nat.pow_succ,Nat.div_div_eq_div_mul]
 rw[e,←Nat.pow_add,←Nat.pow_add]
 congr 1
 omega
theorem pow_W{x A m:Nat}(hx:x < W32 ^ A):x ^ m < W32 ^ (A*m+1):=by
 have h1:x ^ m≤(W32 ^ A) ^ m:=Nat.pow_le_pow_left (Nat.le_of_lt hx) m;rw[←Nat.pow_mul] at h1;exact Nat.lt_of_le_of_lt h1 (Nat.pow_lt_pow_right (by decide) (Nat.lt_succ_self _))
theorem pow_Wb{x A m:Nat}(hx:x < W32 ^ A)(hA:A≤1000)(hm:m≤256):x ^ m < W32 ^ 300000:=by
 have h:=pow_W (m:=m) hx
 have hk:A*m+1≤300000:=by have:A*m≤1000*256:=Nat.mul_le_mul hA hm;omega
 generalize 300000=k at *;exact lt_pow h hk
theorem Pow_any(va:Value)(x n A:Nat)(w:World)(ha:Rep W32 w va x)(hx:x < W32 ^ A)(hA:A≤1000)(hn:n < 256):
  Calls Tryz.prog 149 #[va,.int .i64 n] w fun e w'=>∃v,e=.returned v∧Rep W32 w' v (x ^ n)∧Bw w w':=by
 have HA:=hid ha;have HX:=hid (Ai hx hA);have HOf:=hid (FromUint_any 1 w (by decide));have hl:=bitLen_len 8 n (by omega) (by omega);have HLn:=hid (fun W=>Len_small n W hn);obtain⟨b,hb⟩:∃b,b=Lib.bitLen n:=⟨_,rfl⟩;rw[←hb] at hl HLn;have hb64:b≤8:=hl.le (by omega) (by omega);have HL:=hid hl.1;clear ha hx hA hb hl;go_enter Tryz.func149,Tryz.ntmps149;go_wp2_with fail;refine HOf.out.mono ?_;rintro e w1 ⟨v1,rfl,hR1,hB1⟩;clear HOf;go_wp2_with fail;refine(HLn.out w1).mono ?_;rintro e w' ⟨rfl,rfl⟩;clear HLn;go_wp2_with fail
 go_loopw [5,6] (fun v i wr=>∃k:Nat,k≤b∧i=.int .i64 ((k:Int) - 1)∧Rep W32 wr v (x ^ (n / 2 ^ k))∧Bw w wr) (fun _ i _=>(intOf i+1).toNat)
 case atStart=>exact⟨b,Lr _,rfl,by rw[Nat.div_eq_of_lt HL.out,Nat.pow_zero];exact hR1,hB1⟩
 case round=>
  obtain⟨k,hk,rfl,hR,hB⟩:=hrel
  rcases Nat.eq_zero_or_pos k with h0 | h0
  ·subst h0;rw[Nat.pow_zero,Nat.div_one] at hR;have HR:=hid (Ai hR hB);clear hR hB hR1 hB1;go_wp2_with fail
   go_ret
   exact⟨_,rfl,HR.out.1,HR.out.2⟩
  ·obtain⟨t,rfl⟩:∃t,k=t+1:=⟨k - 1,by omega⟩
   have e1:((t+1:Nat):Int) - 1=t:=by omega
   rw[e1];clear e1;have hm:n / 2 ^ (t+1)≤256:=Nat.le_trans (Nat.div_le_self _ _) (by omega);have HM1:=hid (Mul_any u5 u5 _ _ wr hR hR (lt_big (pow_Wb HX.out.1 HX.out.2 hm) (by omega)) (lt_big (pow_Wb HX.out.1 HX.out.2 hm) (by omega)));have HS:=hid (pow_step x n t);have HB:=hid hB;clear hR hB hR1 hB1 hm
   by_cases hb1:n / 2 ^ t % 2=1
   ·have hbit:(bits BinOp.and IntKind.i64 ((n:Int) / 2 ^ t) 1 == 1)=true:=(bit_one hn).trans (decide_eq_true hb1);have hst:=HS.out;rw[hb1,Nat.pow_one] at hst;have HST:=hid hst
    have hq:n / 2 ^ (t+1)*2≤256:=by
     rw[Nat.pow_succ,←Nat.div_div_eq_div_mul];have:=Nat.div_le_self n (2 ^ t);omega
    have HQ:=hid (pow_Wb (m:=n / 2 ^ (t+1)*2) HX.out.1 HX.out.2 hq);rw[Nat.pow_mul,Nat.pow_two] at HQ;clear hst hb1 hq HS;go_wp2_with fail;refine HM1.out.mono ?_;rintro e w2 ⟨v2,rfl,hR2,hB2⟩;go_wp2_with fail;refine(Mul_any v2 va _ x w2 hR2 (HA.out.below (HB.out.trans (hB2.mono HB.out.size))) (lt_big HQ.out (by omega)) (lt_big HX.out.1 (by have:=HX.out.2;omega))).mono ?_;rintro e w3 ⟨v3,rfl,hR3,hB3⟩;rw[←HST.out] at hR3;have HR3:=hid (Ai hR3 (HB.out.trans ((held_any hB2 hB3).mono HB.out.size)));clear hR3 hR2 hB2 hB3;go_wp2_with fail
    go_roundw
    case rel=>exact⟨t,by omega,rfl,HR3.out.1,HR3.out.2⟩
    case measure=>simp [intOf]
   ·have hbit:(bits BinOp.and IntKind.i64 ((n:Int) / 2 ^ t) 1 == 1)=false:=(bit_one hn).trans (decide_eq_false hb1);have hst:=HS.out;rw[show n / 2 ^ t % 2=0 by omega,Nat.pow_zero,Nat.mul_one] at hst;have HST:=hid hst;clear hst hb1 HS;go_wp2_with fail;refine HM1.out.mono ?_;rintro e w2 ⟨v2,rfl,hR2,hB2⟩;rw[←HST.out] at hR2;have HR2:=hid (Ai hR2 (HB.out.trans (hB2.mono HB.out.size)));clear hR2 hB2;go_wp2_with fail
    go_roundw
    case rel=>exact⟨t,by omega,rfl,HR2.out.1,HR2.out.2⟩
    case measure=>simp [intOf]
end Go.Proofs.YteblinkehldghaaGreatDoor
