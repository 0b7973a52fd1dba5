/- The natural numbers of the program: the greatest common divisor of odd numbers. -/
import Derived.Test.YteblinkehldghaaGreatDoorNatU
import Derived.Deep.LoopGhost
set_option maxHeartbeats 4000000
set_option maxRecDepth 100000
namespace Go.Proofs.YteblinkehldghaaGreatDoor
open Go.RowKit Dg
open And renaming intro→Ai
def OddRel (w:World) (G:Nat) (k:Nat) (sa sb:Value) (wr:World):Prop:=
 ∃A,k≤A∧0 < A∧Nat.gcd A k=G∧A < W32 ^ 900000000∧k < W32 ^ 900000000∧Rep W32 wr sa A∧Rep W32 wr sb k∧TabOk wr∧Bw w wr
def LowRel (w:World) (G:Nat) (sx sy:Value) (wr:World):Prop:=
 ∃x y q:Nat,sx=.int .u64 x∧sy=.int .u64 y∧x < W32 ^ 2∧y < W32 ^ 2∧Nat.gcd x y=G∧wr=w.drewN q
def GcdPost (G:Nat) (w:World) (e:Ending) (w':World):Prop:=∃v,e=.returned v∧Rep W32 w' v G∧Bw w w'
theorem TabOk.drewN{w:World}(h:TabOk w)(n:Nat):TabOk (w.drewN n):=h
theorem oddGcd_any(va vb:Value)(a b:Nat)(w:World)(ha:Rep W32 w va a)(hb:Rep W32 w vb b)(haB:a < W32 ^ 900000000)(hbB:b < W32 ^ 900000000)(ha0:0 < a)(hb0:0 < b)(ht:TabOk w):
  Calls Tryz.prog 165 #[va,vb] w (GcdPost (Nat.gcd a b) w):=by
 have hcmp:=Compare_any va vb a b w ha hb (lt_big haB (by omega)) (lt_big hbB (by omega));have HH:=hid (Ai ha (Ai hb (Ai haB (Ai hbB (Ai ha0 (Ai hb0 ht))))));clear ha hb haB hbB ha0 hb0 ht;obtain⟨G,hG⟩:∃G,G=Nat.gcd a b:=⟨_,rfl⟩;rw[←hG];have HG:=hid hG;clear hG;go_enter Tryz.func165,Tryz.ntmps165;go_wp2_with fail;refine hcmp.mono ?_;rintro e w' ⟨rfl,q0,rfl⟩;clear hcmp;have hG:=HG.out
 rcases Nat.lt_or_ge a b with hlt | hge
 case' inl=>
  rw[cmp3_lt hlt];obtain⟨K,hK⟩:∃K,K=a:=⟨_,rfl⟩;have HA:Hid (OddRel w G K vb va (w.drewN q0)):=hid ⟨b,by omega,HH.out.2.2.2.2.2.1,by rw[hG,hK];exact Nat.gcd_comm _ _,HH.out.2.2.2.1,by rw[hK];exact HH.out.2.2.1,HH.out.2.1.drewN q0,by rw[hK];exact HH.out.1.drewN q0,HH.out.2.2.2.2.2.2.drewN q0,below_drewN (Below.refl _ _) q0⟩;have hone:=IsOne_any va K (w.drewN q0) (by rw[hK];exact HH.out.1.drewN q0);clear hlt hK hG
 case' inr=>
  have hc:=cmp3_ge hge;generalize cmp3 a b=c at *;obtain⟨K,hK⟩:∃K,K=b:=⟨_,rfl⟩;have HA:Hid (OddRel w G K va vb (w.drewN q0)):=hid ⟨a,by omega,HH.out.2.2.2.2.1,by rw[hG,hK],HH.out.2.2.1,by rw[hK];exact HH.out.2.2.2.1,HH.out.1.drewN q0,by rw[hK];exact HH.out.2.1.drewN q0,HH.out.2.2.2.2.2.2.drewN q0,below_drewN (Below.refl _ _) q0⟩;have hone:=IsOne_any vb K (w.drewN q0) (by rw[hK];exact HH.out.2.1.drewN q0);clear hge hK hG
 all_goals
  clear HH
  by_cases h1:K=1
  ·rw[decide_eq_true h1] at hone
   go_wp2_with fail;refine hone.mono ?_;rintro e w' ⟨rfl,rfl⟩;go_wp2_with fail
   go_ret
   obtain⟨A,_,_,hg,_,_,_,hRb,_,hB⟩:=HA.out;refine⟨_,rfl,?_,hB⟩;rw[←hg,h1,Nat.gcd_one_right,←h1];exact hRb
  ·rw[decide_eq_false h1] at hone
   go_wp2_with fail;refine hone.mono ?_;rintro e w' ⟨rfl,rfl⟩;clear hone h1;go_wp2_with fail
   go_loopg [0,1] K (fun k sa sb wr=>OddRel w G k sa sb wr)
   case atStart=>exact HA.out
   case round=>
    clear HA;obtain⟨A,hkA,hA0,hg,hAB,hkB,hRa,hRb,hT,hB⟩:=hrel;have HR:=hid (Ai hRa (Ai hRb (Ai hT (Ai hB (Ai hkA (Ai hA0 (Ai hg (Ai hAB hkB))))))));obtain⟨pb,nb,cb,rfl,hcb,hlb,hsb⟩:=hRb;have hnb:=hlb.le W32_pos hkB
    by_cases hn2:2 < nb
    ·have hk2:W32 ^ 2≤gk:=Nat.le_trans (Nat.pow_le_pow_right W32_pos (show 2≤nb - 1 by omega)) (hlb.2 (by omega));have Hk2:=hid hk2;have hgk0:0 < gk:=Nat.lt_of_lt_of_le (Nat.pow_pos W32_pos) hk2;clear hkA hA0 hg hAB hkB hRa hT hB hlb hsb hk2;go_wp2_with fail;refine(steps_any _ _ A gk _ HR.out.1 HR.out.2.1 HR.out.2.2.2.2.2.2.2.1 HR.out.2.2.2.2.2.2.2.2 HR.out.2.2.2.2.1 Hk2.out).mono ?_;rintro e w1 ⟨hB1,rfl | ⟨z1,z2,n,r,rfl,hR1,hR2,hrn,hrb,hnb',hgg⟩⟩
     ·have HB1:=hid hB1;clear hB1;go_wp2_with fail;refine(Div_any _ _ A gk _ (HR.out.1.below HB1.out) (HR.out.2.1.below HB1.out) HR.out.2.2.2.2.2.2.2.1 HR.out.2.2.2.2.2.2.2.2 hgk0 (HR.out.2.2.1.below HB1.out)).mono ?_;rintro e w2 ⟨v1,v2,rfl,_,hR2,hB2⟩;have HR2:=hid (Ai hR2 hB2);clear hR2 hB2;go_wp2_with fail
      go_roundg (A % gk)
      case measure=>exact Nat.mod_lt _ hgk0
      case rel=>
       obtain⟨hRa,hRb,hT,hB,hkA,hA0,hg,hAB,hkB⟩:=HR.out;refine⟨gk,Nat.le_of_lt (Nat.mod_lt _ hgk0),hgk0,?_,hkB,Nat.lt_of_le_of_lt (Nat.mod_le _ _) hAB,(hRb.below HB1.out).below HR2.out.2,HR2.out.1,(hT.below HB1.out).below HR2.out.2,hB.trans ((HB1.out.mono hB.size).trans (HR2.out.2.mono (Nat.le_trans hB.size HB1.out.size)))⟩;rw[←hg,Nat.gcd_comm A gk,Nat.gcd_rec gk A,Nat.gcd_comm]
     ·have HN:=hid (Ai hB1 (Ai hR1 (Ai hR2 (Ai hrn (Ai hrb (Ai hnb' hgg))))));clear hB1 hR1 hR2 hnb' hgg hrn;go_wp2_with fail
      go_roundg r
      case measure=>exact hrb
      case rel=>
       obtain⟨hRa,hRb,hT,hB,hkA,hA0,hg,hAB,hkB⟩:=HR.out;obtain⟨hB1,hR1,hR2,hrn,hrb',hnb',hgg⟩:=HN.out;exact⟨n,Nat.le_of_lt hrn,by omega,by rw[hgg,hg],Nat.lt_of_le_of_lt hnb' hkB,Nat.lt_trans hrb' hkB,hR1,hR2,hT.below hB1,hB.trans (hB1.mono hB.size)⟩
    ·have hk2:gk < W32 ^ 2:=lt_pow hlb.1 (by omega);have Hk2:=hid hk2;have hz:=IsZero_any _ gk wr HR.out.2.1;clear hkA hA0 hg hAB hkB hRa hT hB hlb hsb hk2
     by_cases h0:gk=0
     ·rw[decide_eq_true h0] at hz;go_wp2_with fail;refine hz.mono ?_;rintro e w' ⟨rfl,rfl⟩;go_wp2_with fail
      go_ret
      obtain⟨hRa,hRb,hT,hB,hkA,hA0,hg,hAB,hkB⟩:=HR.out;rw[h0,Nat.gcd_zero_right] at hg;exact⟨_,rfl,by rw[←hg];exact hRa,hB⟩
     ·rw[decide_eq_false h0] at hz
      have hgk0:0 < gk:=by omega
      go_wp2_with fail;refine hz.mono ?_;rintro e w' ⟨rfl,rfl⟩;clear hz h0;go_wp2_with fail;refine(Div_any _ _ A gk _ HR.out.1 HR.out.2.1 HR.out.2.2.2.2.2.2.2.1 HR.out.2.2.2.2.2.2.2.2 hgk0 HR.out.2.2.1).mono ?_;rintro e w2 ⟨v1,v2,rfl,_,hR2,hB2⟩;have hm2:A % gk < W32 ^ 2:=Nat.lt_trans (Nat.mod_lt _ hgk0) Hk2.out;have hl1:=low_any _ gk w2 (HR.out.2.1.below hB2) Hk2.out;have hl2:=low_any _ (A % gk) w2 hR2 hm2;have Hg:Hid (Nat.gcd gk (A % gk)=G):=hid (by rw[←HR.out.2.2.2.2.2.2.1,Nat.gcd_comm A gk,Nat.gcd_rec gk A,Nat.gcd_comm]);have HBB:Hid (Bw w w2):=hid (HR.out.2.2.2.1.trans (hB2.mono HR.out.2.2.2.1.size));have Hm2:=hid hm2;clear HR hR2 hB2 hm2 hn2;generalize A % gk=m at *;go_wp2_with fail;refine hl1.mono ?_;rintro e w' ⟨rfl,rfl⟩;go_wp2_with fail;refine hl2.mono ?_;rintro e w' ⟨rfl,rfl⟩;clear hl1 hl2;go_wp2_with fail
      go_loopw [10,11] (LowRel w2 G) (fun _ y _=>(intOf y).toNat)
      case atStart=>exact⟨gk,m,0,rfl,rfl,Hk2.out,Hm2.out,Hg.out,rfl⟩
      case round=>
       obtain⟨x,y,q,rfl,rfl,hx,hy,hxy,rfl⟩:=hrel;have HX:=hid (Ai hx (Ai hy hxy));have hx64:x < 18446744073709551616:=hx;clear hx hy hxy
       by_cases hy0:y=0
       ·subst hy0;have hne:(((0:Nat):Int) != 0)=false:=rfl;go_wp2_with fail;refine(FromUint_any x _ HX.out.1).mono ?_;rintro e w3 ⟨v3,rfl,hR3,hB3⟩;go_wp2_with fail
        go_ret
        have hxG:=HX.out.2.2;rw[Nat.gcd_zero_right] at hxG;exact⟨_,rfl,by rw[←hxG];exact hR3,(below_drewN HBB.out q).trans (hB3.mono HBB.out.size)⟩
       ·have hne:((y:Int) != 0)=true:=by simp;omega
        have hnz:(y:Int)≠0:=by omega
        have hy1:1≤y:=by omega
        have hrI:(x:Int) % (y:Int)=((x % y:Nat):Int):=by rw[Int.natCast_emod]
        have HrI:=hid hrI;have hlt:x % y < y:=Nat.mod_lt _ hy1;generalize hr:x % y=r at *;have Hr:=hid hr;clear hr hy0;go_wp2_with fail
        go_quiet (fail)
        go_wp2_with fail
        go_roundw
        case rel=>
         obtain⟨h1,h2,h3⟩:=HX.out;refine⟨y,r,_,rfl,congrArg (Value.int .u64) HrI.out,h2,Nat.lt_trans hlt h2,?_,by rw[World.drewN_drewN]⟩;rw[←h3,Nat.gcd_comm x y,Nat.gcd_rec y x,Hr.out,Nat.gcd_comm]
        case measure=>
         have e:=HrI.out;show(intOf (Value.int .u64 ((x:Int) % (y:Int)))).toNat < (intOf (Value.int .u64 (y:Int))).toNat;simp only[intOf];rw[e];omega
theorem lt_9{x a:Nat}(h:x < W32 ^ a)(hab:a≤900000000):x < W32 ^ 900000000:=by
 generalize 900000000=b at *;exact Nat.lt_of_lt_of_le h (Nat.pow_le_pow_right W32_pos hab)
theorem tz_lt{a z n:Nat}(h:Tz a z)(ha:a < W32 ^ n):z < 32*n:=by
 obtain⟨m,hm,ho⟩:=h;have h1:2 ^ z*1≤2 ^ z*m:=Nat.mul_le_mul_left _ (by omega);rw[W32_pow] at ha;exact(Nat.pow_lt_pow_iff_right (a:=2) (by omega)).1 (by omega)
theorem gcd_le_tz{x y m n:Nat}(hxy:x≤y)(hm:m % 2=1):Nat.gcd (2 ^ x*m) (2 ^ y*n)=Nat.gcd m n*2 ^ x:=by
 obtain⟨d,rfl⟩:=Nat.exists_eq_add_of_le hxy;rw[Nat.pow_add,Nat.mul_assoc,Nat.gcd_mul_left,Nat.mul_comm]
 congr 1
 have hc:Nat.Coprime (2 ^ d) m:=by
  refine Nat.Coprime.pow_left d ?_;show Nat.gcd 2 m=1;rw[Nat.gcd_rec,hm];rfl
 exact Nat.Coprime.gcd_mul_left_cancel_right n hc
theorem gcd_tz{a b x y:Nat}(ha:Tz a x)(hb:Tz b y):Nat.gcd a b=Nat.gcd (a / 2 ^ x) (b / 2 ^ y)*2 ^ min x y∧0 < a / 2 ^ x∧0 < b / 2 ^ y:=by
 obtain⟨m,hm,ho⟩:=ha;obtain⟨n,hn,hp⟩:=hb;have h1:0 < 2 ^ x:=Nat.pow_pos (by omega);have h2:0 < 2 ^ y:=Nat.pow_pos (by omega)
 have e1:a / 2 ^ x=m:=by rw[hm,Nat.mul_div_cancel_left _ h1]
 have e2:b / 2 ^ y=n:=by rw[hn,Nat.mul_div_cancel_left _ h2]
 rw[e1,e2];refine⟨?_,by omega,by omega⟩;rw[hm,hn]
 rcases Nat.le_total x y with h | h
 ·rw[Nat.min_eq_left h];exact gcd_le_tz h ho
 ·rw[Nat.min_eq_right h,Nat.gcd_comm,Nat.gcd_comm m];exact gcd_le_tz h hp
theorem Gcd_any(va vb:Value)(a b:Nat)(w:World)(ha:Rep W32 w va a)(hb:Rep W32 w vb b)(haB:a < W32 ^ 20000000)(hbB:b < W32 ^ 20000000)(ht:TabOk w):
  Calls Tryz.prog 145 #[va,vb] w (GcdPost (Nat.gcd a b) w):=by
 have hza:=IsZero_any va a w ha;have hzb:=IsZero_any vb b w hb;have ha9:=lt_9 haB (by omega);have hb9:=lt_9 hbB (by omega);have HH:=hid (Ai ha (Ai hb (Ai (Ai haB (lt_big haB (by omega))) (Ai (Ai hbB (lt_big hbB (by omega))) (Ai ha9 (Ai hb9 ht))))));clear ha hb haB hbB ht ha9 hb9
 by_cases ha0:a=0
 ·rw[decide_eq_true ha0] at hza
  have hG:b=Nat.gcd a b:=by rw[ha0,Nat.gcd_zero_left]
  have HG:=hid hG;clear hG;go_enter Tryz.func145,Tryz.ntmps145;go_wp2_with fail;refine hza.mono ?_;rintro e w' ⟨rfl,rfl⟩;go_wp2_with fail
  go_ret
  exact⟨_,rfl,by rw[←HG.out];exact HH.out.2.1,Below.refl _ _⟩
 ·rw[decide_eq_false ha0] at hza
  by_cases hb0:b=0
  ·rw[decide_eq_true hb0] at hzb
   have hG:a=Nat.gcd a b:=by rw[hb0,Nat.gcd_zero_right]
   have HG:=hid hG;clear hG;go_enter Tryz.func145,Tryz.ntmps145;go_wp2_with fail;refine hza.mono ?_;rintro e w' ⟨rfl,rfl⟩;go_wp2_with fail;refine hzb.mono ?_;rintro e w' ⟨rfl,rfl⟩;go_wp2_with fail
   go_ret
   exact⟨_,rfl,by rw[←HG.out];exact HH.out.1,Below.refl _ _⟩
  ·rw[decide_eq_false hb0] at hzb;have hta:=Zeros_any va a w HH.out.1 HH.out.2.2.1.2 (by omega) HH.out.2.2.2.2.2.2;have htb:=Zeros_any vb b w HH.out.2.1 HH.out.2.2.2.1.2 (by omega) HH.out.2.2.2.2.2.2;obtain⟨G,hG⟩:∃G,G=Nat.gcd a b:=⟨_,rfl⟩;rw[←hG];have HG:=hid hG;clear hG ha0 hb0;go_enter Tryz.func145,Tryz.ntmps145;go_wp2_with fail;refine hza.mono ?_;rintro e w' ⟨rfl,rfl⟩;go_wp2_with fail;refine hzb.mono ?_;rintro e w' ⟨rfl,rfl⟩;clear hza hzb;go_wp2_with fail;refine hta.mono ?_;rintro e w' ⟨x,rfl,hTa,rfl⟩;have HTa:=hid hTa;clear hta hTa;go_wp2_with fail;refine htb.mono ?_;rintro e w' ⟨y,rfl,hTb,rfl⟩;have HTb:=hid hTb;have hx:=tz_lt HTa.out HH.out.2.2.1.1;have hy:=tz_lt hTb HH.out.2.2.2.1.1;have Hgt:=hid (gcd_tz HTa.out hTb);clear htb hTb;go_wp2_with fail;refine(Shr_any va a x _ HH.out.1 HH.out.2.2.1.2 (by omega)).mono ?_;rintro e w1 ⟨v1,rfl,hR1,hB1⟩;have H1:=hid (Ai hR1 hB1);clear hR1 hB1;go_wp2_with fail;refine(Shr_any vb b y _ (HH.out.2.1.below H1.out.2) HH.out.2.2.2.1.2 (by omega)).mono ?_;rintro e w2 ⟨v2,rfl,hR2,hB2⟩;have H2:=hid (Ai hR2 hB2);clear hR2 hB2;go_wp2_with fail;refine(oddGcd_any v1 v2 (a / 2 ^ x) (b / 2 ^ y) _ (H1.out.1.below H2.out.2) H2.out.1 (Nat.lt_of_le_of_lt (Nat.div_le_self _ _) HH.out.2.2.2.2.1) (Nat.lt_of_le_of_lt (Nat.div_le_self _ _) HH.out.2.2.2.2.2.1) Hgt.out.2.1 Hgt.out.2.2 ((HH.out.2.2.2.2.2.2.below H1.out.2).below H2.out.2)).mono ?_;rintro e w3 ⟨v3,rfl,hR3,hB3⟩;have H3:=hid (Ai hR3 hB3);clear hR3 hB3;go_wp2_with fail;rw[show min (x:Int) (y:Int)=((min x y:Nat):Int) by omega];have hgb:Nat.gcd (a / 2 ^ x) (b / 2 ^ y) < W32 ^ 1000000000:=Nat.lt_of_le_of_lt (Nat.gcd_le_left _ Hgt.out.2.1) (Nat.lt_of_le_of_lt (Nat.div_le_self _ _) HH.out.2.2.1.2);refine(Shl_any v3 (Nat.gcd (a / 2 ^ x) (b / 2 ^ y)) (min x y) _ H3.out.1 hgb (by omega)).mono ?_;rintro e w4 ⟨v4,rfl,hR4,hB4⟩;rw[←Hgt.out.1,←HG.out] at hR4;clear hgb;go_wp2_with fail
   go_ret
   exact⟨_,rfl,hR4,H1.out.2.trans ((H2.out.2.mono H1.out.2.size).trans ((H3.out.2.mono (Nat.le_trans H1.out.2.size H2.out.2.size)).trans (hB4.mono (Nat.le_trans H1.out.2.size (Nat.le_trans H2.out.2.size H3.out.2.size)))))⟩
end Go.Proofs.YteblinkehldghaaGreatDoor
