/- The natural numbers of the specification: division by a digit. -/
import Derived.Test.YteblinkehldghaaGreatDoorRefX
namespace Go.Proofs.YteblinkehldghaaGreatDoor
open Go.RowKit Dg
theorem divw_step16{x d t q:Nat}(hd:0 < d)(hq:q=((x / B16 ^ (t+1)) % d*B16+dg B16 x t) / d):
  q < B16∧setd B16 (B16 ^ (t+1)*((x / B16 ^ (t+1)) / d)) t q=B16 ^ t*((x / B16 ^ t) / d)∧(x / B16 ^ t) % d=((x / B16 ^ (t+1)) % d*B16+dg B16 x t) % d:=by
 have hlt:q < B16:=by rw[hq];exact divw_lt hd (dg_lt B16_pos)
 refine⟨hlt,?_,?_⟩
 ·have h1:=setd_val B16 (B16 ^ (t+1)*((x / B16 ^ (t+1)) / d)) t q;rw[dg_mul_pow_lt B16_pos (Nat.lt_succ_self t),Nat.mul_zero,Nat.add_zero] at h1;rw[h1,div_succ B16 x t,divw_q hd,←hq,Nat.pow_succ,Nat.mul_add,Nat.mul_assoc]
 ·rw[div_succ B16 x t,divw_r]
theorem cast_join16(R g:Nat):((R*65536+g:Nat):Int)=(R:Int)*65536+g:=by omega
theorem cast_quo16(R g d:Nat):((((R*65536+g) / d:Nat)):Int)=((R:Int)*65536+g) / d:=by rw[Int.natCast_ediv,cast_join16]
theorem cast_rem16(R g d:Nat):((((R*65536+g) % d:Nat)):Int)=((R:Int)*65536+g) % d:=by rw[Int.natCast_emod,cast_join16]
theorem div_lt_pow16{x d n:Nat}(h:x < B16 ^ n):x / d < B16 ^ n:=Nat.lt_of_le_of_lt (Nat.div_le_self x d) h
set_option maxHeartbeats 1000000 in
set_option maxRecDepth 100000 in
theorem small_any(va:Value)(x d:Nat)(w:World)(ha:Rep B16 w va x)(hx:x < B16 ^ 1000000000)(hd:0 < d)(hd2:d < 65536):
  Calls Tryz.prog 125 #[va,.int .u32 d] w fun e w'=>∃v,e=.returned (.tuple #[v,.int .u32 (x % d:Nat)])∧Rep B16 w' v (x / d)∧Bw w w':=by
 obtain⟨pa,na,ca,rfl,hca,hla,hsa⟩:=ha;have hna:=hla.le B16_pos hx;clear hx;have hmk:=Tryz.mkN na (by omega);go_enter Tryz.func125,Tryz.ntmps125;go_wp2_with fail;clear hmk
 go_loopw [7,8] (fun r i wr=>∃k R Z:Nat,k≤na∧i=.int .i64 ((k:Int) - 1)∧r=.int .u32 R∧R < d∧R=(x / B16 ^ k) % d∧Z=B16 ^ k*((x / B16 ^ k) / d)∧Mk B16 w wr na Z) (fun _ i _=>(intOf i+1).toNat)
 case atStart=>exact⟨na,0,0,by omega,rfl,rfl,hd,by rw[Nat.div_eq_of_lt hla.1];simp,by rw[Nat.div_eq_of_lt hla.1];simp,Mk.start _ _ _⟩
 case round=>
  obtain⟨k,R,Z,hk,rfl,rfl,hRd,hR,hZ,hM⟩:=hrel
  rcases Nat.eq_zero_or_pos k with h0 | h0
  ·subst h0
   have HR:Hid (R=x % d):=by show R=x % d;simpa using hR
   have HZ:Hid (Z=x / d):=by show Z=x / d;simpa using hZ
   have hsl:=hM.slc;have hbel:=hM.bel
   have hZl:Z < B16 ^ na:=by rw[HZ.out];exact div_lt_pow16 hla.1
   clear hR hZ hM hsa;go_wp2_with fail;refine(trim_any _ _ _ Z _ (by omega) (Nat.le_refl _) hZl hsl).mono ?_;rintro e w' ⟨m,rfl,hm,hlen,rfl⟩;go_wp2_with fail
   go_ret2
   rw[←HZ.out,←HR.out];exact⟨_,rfl,⟨_,_,_,rfl,hm,hlen,hsl.take (by omega)⟩,hbel⟩
  ·obtain⟨t,rfl⟩:∃t,k=t+1:=⟨k - 1,by omega⟩;have hsa':=hsa.below hM.bel;obtain⟨b1,o1,rfl,hc1⟩:=hsa' (by omega);have hk1:=hc1 t (by omega)
   have e1:((t+1:Nat):Int) - 1=t:=by omega
   rw[e1];clear e1
   have HS:Hid (∀q,q=(R*B16+dg B16 x t) / d→q < B16∧setd B16 Z t q=B16 ^ t*((x / B16 ^ t) / d)∧(x / B16 ^ t) % d=(R*B16+dg B16 x t) % d):=fun q hq=>by
    rw[hR] at hq ⊢;rw[hZ];exact divw_step16 hd hq
   have hdx:=dg_16 x t;have hcell:=hM.cell (show t < na by omega);have hfrz:=hM.row.frozen t;clear hR hZ hc1 hsa;generalize dg B16 x t=g at *
   have hb1:R*65536+g < 4294967296:=by omega
   have hu1:IntKind.u32.wrap ((R:Int)*65536)=(R:Int)*65536:=by simp [IntKind.wrap,IntKind.bits,IntKind.signed];omega
   have hu2:IntKind.u32.wrap ((R:Int)*65536+g)=(R:Int)*65536+g:=by simp [IntKind.wrap,IntKind.bits,IntKind.signed];omega
   go_wp2_with fail
   go_roundw
   case rel=>
    obtain⟨h1,h2,h3⟩:=HS.out _ rfl;have hs:=hM.set B16_pos t _ h1;rw[B16_val] at h3 hs;refine⟨t,(R*65536+g) % d,_,by omega,rfl,congrArg (Value.int .u32) (cast_rem16 R g d).symm,Nat.mod_lt _ hd,h3.symm,h2,?_⟩;rw[←cast_quo16];exact hs
   case measure=>simp [intOf]
end Go.Proofs.YteblinkehldghaaGreatDoor
