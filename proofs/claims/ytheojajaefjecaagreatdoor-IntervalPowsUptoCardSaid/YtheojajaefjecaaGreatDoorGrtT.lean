/- Powers of fractions: what they are, and that they are in lowest terms. -/
import Derived.Test.YtheojajaefjecaaGreatDoorGrd
import Derived.Test.YtheojajaefjecaaGreatDoorNumX
import Derived.Test.YtheojajaefjecaaGreatDoorOrderA
import Derived.Test.YtheojajaefjecaaGreatDoorLawD
namespace Go.Proofs.YtheojajaefjecaaGreatDoor
open Go.RowKit Dg
open And renaming intro→Ai
open List renaming setIfInBounds_toArray→Sa,set_cons_zero→Sz,set_cons_succ→Sc
open Nat renaming le_refl→Lr
open Below renaming refl→Br
def fpow (t:Tq) (k:Nat):Tq:=(t.1 && decide (k % 2=1),t.2.1 ^ k,t.2.2 ^ k)
def frinv (t:Tq):Tq:=frac t.1 t.2.2 t.2.1
theorem IsFr.pow{t:Tq}(h:IsFr t)(k:Nat):IsFr (fpow t k):=by
 obtain⟨s,n,d,hd,rfl⟩:=h;have hg:=frac_gcd (s:=s) (n:=n) hd;have hz:=frac_zero_sign (s:=s) (n:=n) hd;have hp:=frac_pos (s:=s) (n:=n) hd;generalize frac s n d=t at *;refine⟨t.1 && decide (k % 2=1),t.2.1 ^ k,t.2.2 ^ k,Nat.pow_pos hp,?_⟩;have hc:Nat.gcd (t.2.1 ^ k) (t.2.2 ^ k)=1:=Nat.Coprime.pow k k hg;unfold fpow frac;rw[hc,Nat.div_one,Nat.div_one]
 by_cases h0:t.2.1 ^ k=0
 ·have h1:t.2.1=0:=by
   rcases Nat.eq_zero_or_pos t.2.1 with h | h
   ·exact h
   ·have:=Nat.pow_pos (n:=k) h;omega
  rw[hz h1];simp
 ·rw[decide_eq_true (show t.2.1 ^ k≠0 from h0),Bool.and_true]
theorem fmul_one_inv(t:Tq):fmul (false,1,1) (t.1,t.2.2,t.2.1)=frinv t:=by
 unfold fmul frinv;simp
set_option maxHeartbeats 4000000
set_option maxRecDepth 100000
theorem len8_tab:∀(x:Fin 256) (h:x.val < Lib.len8tab.size),wrap64 (wrap64 ((Lib.len8tab[x.val]'h).toNat:Int))=((Lib.bitLen x.val:Nat):Int):=by decide+kernel
theorem and_one:∀m:Fin 256,bits BinOp.and IntKind.i64 ((m.val:Nat):Int) 1=((m.val % 2:Nat):Int):=by decide+kernel
theorem bit_one{n t:Nat}(hn:n < 256):(bits BinOp.and IntKind.i64 ((n:Int) / 2 ^ t) 1 == 1)=decide (n / 2 ^ t % 2=1):=by
 have e:((n:Int) / 2 ^ t)=((n / 2 ^ t:Nat):Int):=by push_cast;rfl
 have hlt:n / 2 ^ t < 256:=Nat.lt_of_le_of_lt (Nat.div_le_self _ _) hn;rw[e,and_one ⟨n / 2 ^ t,hlt⟩];simp only
 by_cases h:n / 2 ^ t % 2=1
 ·rw[h];rfl
 ·have h0:n / 2 ^ t % 2=0:=by omega
  rw[h0];rfl
theorem Len64_small(x:Nat)(w:World)(hx:x < 256):
  Calls Tryz.prog 240 #[.int .u64 x] w fun e w'=>e=.returned (.int .i64 (Lib.bitLen x))∧w=w':=by
 have h1:decide ((4294967296:Int)≤(x:Int))=false:=decide_eq_false (by omega);have h2:decide ((65536:Int)≤(x:Int))=false:=decide_eq_false (by omega);have h3:decide ((256:Int)≤(x:Int))=false:=decide_eq_false (by omega);have h4:decide (4294967296≤x)=false:=decide_eq_false (by omega);have h5:decide (65536≤x)=false:=decide_eq_false (by omega);have h6:decide (256≤x)=false:=decide_eq_false (by omega);go_enter Tryz.func240,Tryz.ntmps240;go_wp2_with fail
 go_ret
 exact⟨ret_i64 (len8_tab ⟨x,hx⟩ _),rfl⟩
theorem Len_small(x:Nat)(w:World)(hx:x < 256):
  Calls Tryz.prog 228 #[.int .u64 x] w fun e w'=>e=.returned (.int .i64 (Lib.bitLen x))∧w=w':=by
 have hc:=Len64_small x w hx;generalize Lib.bitLen x=b at *;go_enter Tryz.func228,Tryz.ntmps228;go_wp2_with fail;refine hc.mono ?_;rintro e w' ⟨rfl,rfl⟩;go_wp2_with fail
 go_ret
 exact⟨rfl,rfl⟩
theorem pow_step(x n j:Nat):x ^ (n / 2 ^ j)=(x ^ (n / 2 ^ (j+1))*x ^ (n / 2 ^ (j+1)))*x ^ (n / 2 ^ j % 2):=by
 have e:n / 2 ^ (j+1)=n / 2 ^ j / 2:=by rw[Nat.pow_succ,Nat.div_div_eq_div_mul]
 rw[e,←Nat.pow_add,←Nat.pow_add]
 congr 1
 omega
theorem pow_W{x A m:Nat}(hx:x < W32 ^ A):x ^ m < W32 ^ (A*m+1):=by
 have h1:x ^ m≤(W32 ^ A) ^ m:=Nat.pow_le_pow_left (Nat.le_of_lt hx) m;rw[←Nat.pow_mul] at h1;exact Nat.lt_of_le_of_lt h1 (Nat.pow_lt_pow_right (by decide) (Nat.lt_succ_self _))
theorem pow_Wb{x A m:Nat}(hx:x < W32 ^ A)(hA:A≤1000)(hm:m≤256):x ^ m < W32 ^ 300000:=by
 have h:=pow_W (m:=m) hx
 have hk:A*m+1≤300000:=by have:A*m≤1000*256:=Nat.mul_le_mul hA hm;omega
 generalize 300000=k at *;exact lt_pow h hk
theorem Pow_any(va:Value)(x n A:Nat)(w:World)(ha:Rep W32 w va x)(hx:x < W32 ^ A)(hA:A≤1000)(hn:n < 256):
  Calls Tryz.prog 213 #[va,.int .i64 n] w fun e w'=>∃v,e=.returned v∧Rep W32 w' v (x ^ n)∧Bw w w':=by
 have HA:=hid ha;have HX:=hid (Ai hx hA);have HOf:=hid (FromUint_any 1 w (by decide));have hl:=bitLen_len 8 n (by omega) (by omega);have HLn:=hid (fun W=>Len_small n W hn);obtain⟨b,hb⟩:∃b,b=Lib.bitLen n:=⟨_,rfl⟩;rw[←hb] at hl HLn;have hb64:b≤8:=hl.le (by omega) (by omega);have HL:=hid hl.1;clear ha hx hA hb hl;go_enter Tryz.func213,Tryz.ntmps213;go_wp2_with fail;refine HOf.out.mono ?_;rintro e w1 ⟨v1,rfl,hR1,hB1⟩;clear HOf;go_wp2_with fail;refine(HLn.out w1).mono ?_;rintro e w' ⟨rfl,rfl⟩;clear HLn;go_wp2_with fail
 go_loopw [5,6] (fun v i wr=>∃k:Nat,k≤b∧i=.int .i64 ((k:Int) - 1)∧Rep W32 wr v (x ^ (n / 2 ^ k))∧Bw w wr) (fun _ i _=>(intOf i+1).toNat)
 case atStart=>exact⟨b,Lr _,rfl,by rw[Nat.div_eq_of_lt HL.out,Nat.pow_zero];exact hR1,hB1⟩
 case round=>
  obtain⟨k,hk,rfl,hR,hB⟩:=hrel
  rcases Nat.eq_zero_or_pos k with h0 | h0
  ·subst h0;rw[Nat.pow_zero,Nat.div_one] at hR;have HR:=hid (Ai hR hB);clear hR hB hR1 hB1;go_wp2_with fail
   go_ret
   exact⟨_,rfl,HR.out.1,HR.out.2⟩
  ·obtain⟨t,rfl⟩:∃t,k=t+1:=⟨k - 1,by omega⟩
   have e1:((t+1:Nat):Int) - 1=t:=by omega
   rw[e1];clear e1;have hm:n / 2 ^ (t+1)≤256:=Nat.le_trans (Nat.div_le_self _ _) (by omega);have HM1:=hid (Mul_any u5 u5 _ _ wr hR hR (lt_big (pow_Wb HX.out.1 HX.out.2 hm) (by omega)) (lt_big (pow_Wb HX.out.1 HX.out.2 hm) (by omega)));have HS:=hid (pow_step x n t);have HB:=hid hB;clear hR hB hR1 hB1 hm
   by_cases hb1:n / 2 ^ t % 2=1
   ·have hbit:(bits BinOp.and IntKind.i64 ((n:Int) / 2 ^ t) 1 == 1)=true:=(bit_one hn).trans (decide_eq_true hb1);have hst:=HS.out;rw[hb1,Nat.pow_one] at hst;have HST:=hid hst
    have hq:n / 2 ^ (t+1)*2≤256:=by
     rw[Nat.pow_succ,←Nat.div_div_eq_div_mul];have:=Nat.div_le_self n (2 ^ t);omega
    have HQ:=hid (pow_Wb (m:=n / 2 ^ (t+1)*2) HX.out.1 HX.out.2 hq);rw[Nat.pow_mul,Nat.pow_two] at HQ;clear hst hb1 hq HS;go_wp2_with fail;refine HM1.out.mono ?_;rintro e w2 ⟨v2,rfl,hR2,hB2⟩;go_wp2_with fail;refine(Mul_any v2 va _ x w2 hR2 (HA.out.below (HB.out.trans (hB2.mono HB.out.size))) (lt_big HQ.out (by omega)) (lt_big HX.out.1 (by have:=HX.out.2;omega))).mono ?_;rintro e w3 ⟨v3,rfl,hR3,hB3⟩;rw[←HST.out] at hR3;have HR3:=hid (Ai hR3 (HB.out.trans ((held_any hB2 hB3).mono HB.out.size)));clear hR3 hR2 hB2 hB3;go_wp2_with fail
    go_roundw
    case rel=>exact⟨t,by omega,rfl,HR3.out.1,HR3.out.2⟩
    case measure=>simp [intOf]
   ·have hbit:(bits BinOp.and IntKind.i64 ((n:Int) / 2 ^ t) 1 == 1)=false:=(bit_one hn).trans (decide_eq_false hb1);have hst:=HS.out;rw[show n / 2 ^ t % 2=0 by omega,Nat.pow_zero,Nat.mul_one] at hst;have HST:=hid hst;clear hst hb1 HS;go_wp2_with fail;refine HM1.out.mono ?_;rintro e w2 ⟨v2,rfl,hR2,hB2⟩;rw[←HST.out] at hR2;have HR2:=hid (Ai hR2 (HB.out.trans (hB2.mono HB.out.size)));clear hR2 hB2;go_wp2_with fail
    go_roundw
    case rel=>exact⟨t,by omega,rfl,HR2.out.1,HR2.out.2⟩
    case measure=>simp [intOf]
theorem FracPow_ret{W:World}{B:Nat}{x y z ev:Value}{tm:Array Value}{R:Ending→World→Prop}(h2:tm[4]?.getD undef=.pointer (some ⟨B,0,none⟩))(h3:tm[5]?.getD undef=ev)(hV:Var3 W B x y z)
  (hR:R (.returned (.tuple #[.agg #[x,y,z],ev])) W):bodyPost Tryz.prog Tryz.f181 R .ret {tmps:=tm,defers:=[]} W:=by
 obtain⟨c0,c1,c2,_,_,_⟩:=hV.cells;exact bodyPost_ret (v:=.tuple #[.agg #[x,y,z],ev]) (by simp [results,Tryz.results181,go_sem,h2,h3,c0,c1,c2]) rfl hR
set_option maxHeartbeats 8000000 in
set_option maxRecDepth 100000 in
theorem FracPowPos_any(v:Value)(t:Tq)(k:Nat)(w:World)(h:FNorm w v t)(hn:t.2.1 < W32 ^ 1000)(hd:t.2.2 < W32 ^ 1000)(hk:k < 256):
  Calls Tryz.prog 181 #[v,.int .i64 (k:Int)] w fun e w'=>Bw w w'∧FRes w' e 0 (fpow t k):=by
 obtain⟨vn1,vd1,rfl,hrn,hrd⟩:=h;have HPn:=hid (fun (W:World) (hW:Bw w W)=>Pow_any vn1 t.2.1 k 1000 W (hrn.below hW) hn (Lr _) hk);have HPd:=hid (fun (W:World) (hW:Bw w W)=>Pow_any vd1 t.2.2 k 1000 W (hrd.below hW) hd (Lr _) hk);obtain⟨b,hb⟩:∃b,b=decide (k % 2=1):=⟨_,rfl⟩
 have ho1:((k:Int) % 2 == 1)=b:=by
  rw[hb]
  by_cases h:k % 2=1
  ·rw[decide_eq_true h,show(k:Int) % 2=1 by omega];rfl
  ·rw[decide_eq_false h,show(k:Int) % 2=0 by omega];rfl
 have ho2:(Int.tmod (k:Int) 2 == 1)=b:=by rw[Int.tmod_eq_emod_of_nonneg (by omega)];exact ho1
 have hneg:decide ((k:Int) < 0)=false:=decide_eq_false (by omega)
 show Calls _ _ _ _ fun e w'=>Bw w w'∧FRes w' e 0 (t.1 && decide (k % 2=1),t.2.1 ^ k,t.2.2 ^ k)
 rw[←hb];clear hn hd hk hb;obtain⟨N,hN⟩:∃b,b=t.2.1 ^ k:=⟨_,rfl⟩;obtain⟨D,hD⟩:∃b,b=t.2.2 ^ k:=⟨_,rfl⟩;rw[←hN] at HPn ⊢;rw[←hD] at HPd ⊢;clear hN hD;obtain⟨p1,k1,c1,rfl,_⟩:=hrn;obtain⟨p2,k2,c2,rfl,_⟩:=hrd;obtain⟨s1,hs1⟩:∃s,s=t.1:=⟨_,rfl⟩;rw[←hs1];clear hs1;have hal:=below_alloc2 w (.cells #[.bool s1,.slice p1 k1 c1,.slice p2 k2 c2] 55) (.cells #[.bool false,.slice none 0 0,.slice none 0 0] 55);have hVa:=(Var3.alloc w (x:=.bool s1) (y:=.slice p1 k1 c1) (z:=.slice p2 k2 c2) 55 trivial trivial trivial).below ((Br _ _).alloc (Lr _) (.cells #[.bool false,.slice none 0 0,.slice none 0 0] 55));have hVr:=Var3.alloc2 w (.cells #[.bool s1,.slice p1 k1 c1,.slice p2 k2 c2] 55) (x:=.bool false) (y:=.slice none 0 0) (z:=.slice none 0 0) 55 trivial trivial trivial;go_enter Tryz.func181,Tryz.ntmps181;go_upto_region 1 with fail;generalize(w.alloc (.cells #[.bool s1,.slice p1 k1 c1,.slice p2 k2 c2] 55)).alloc (.cells #[.bool false,.slice none 0 0,.slice none 0 0] 55)=W0 at *
 have hn1:w.heap.size+1≤W0.heap.size:=by obtain⟨_,h0,_⟩:=hVr;exact Nat.le_of_lt (Array.getElem?_eq_some_iff.1 h0).1
 have HV:=hid (Ai hVr hal);have HB0:=hid hal;obtain⟨a0,a1,a2,_⟩:=id hVa.cells
 have HS:Hid (∀w',Below (w.heap.size+1) W0 w'→(w'.cell? ⟨w.heap.size,0,none⟩=some (.bool s1)∧w'.cell? ⟨w.heap.size,1,none⟩=some (.slice p1 k1 c1)∧w'.cell? ⟨w.heap.size,2,none⟩=some (.slice p2 k2 c2)∧Hid (Below (w.heap.size+1) W0 w'))):=
  hid fun w' hb=>⟨(bcellN hb _ _ (by omega)).trans hVa.cells.1,(bcellN hb _ _ (by omega)).trans hVa.cells.2.1,(bcellN hb _ _ (by omega)).trans hVa.cells.2.2.1,hid hb⟩
 clear hVr hVa hal;go_wp2_with fail;cases s1
 ·refine wp_region_held_drew (S:=fun w'=>w'.cell? ⟨w.heap.size,0,none⟩=some (.bool false)∧w'.cell? ⟨w.heap.size,1,none⟩=some (.slice p1 k1 c1)∧w'.cell? ⟨w.heap.size,2,none⟩=some (.slice p2 k2 c2)∧Hid (Below (w.heap.size+1) W0 w')) (by kernel_rfl) (HS.out _ (Br _ _).drew) (fun hHeld=>?_);refine wpAnyH_take (i:=0) (oi:={dst:=some 26,op:=Op.fieldAddr 55 (Operand.tmp 2) 0,type:=0,pos:= "fraction.go:173",after:=#[],guard:=none}) (v:=?v0) rfl (by kernel_rfl) (by kernel_rfl) (by kernel_rfl) (fun _ _ _ h=>h) (Or.inl ⟨by rfl,?hy0⟩) (by assumption) ?_
  case hy0=>(intro w hSw;(try dsimp only at hSw);go_simp;(try (with_reducible rfl)))
  (try simp only[Act.put,Sa,Sz,Sc]);refine wpAnyH_take (i:=1) (oi:={dst:=some 27,op:=Op.load 4 (Operand.tmp 26),type:=4,pos:= "fraction.go:173",after:=#[{on:=0,ground:=Ground.data}],guard:=none}) (v:=?v1) rfl (by kernel_rfl) (by kernel_rfl) (by kernel_rfl) (fun _ _ _ h=>h) (Or.inl ⟨by rfl,?hy1⟩) (by assumption) ?_
  case hy1=>(intro w hSw;(try dsimp only at hSw);go_simp;(try (with_reducible rfl)))
  (try simp only[Act.put,Sa,Sz,Sc]);refine wpAnyH_take (i:=2) (oi:={dst:=some 28,op:=Op.move (Operand.tmp 27),type:=4,pos:= "fraction.go:173",after:=#[{on:=1,ground:=Ground.data}],guard:=none}) (v:=?v2) rfl (by kernel_rfl) (by kernel_rfl) (by kernel_rfl) (fun _ _ _ h=>h) (Or.inl ⟨by rfl,?hy2⟩) (by assumption) ?_
  case hy2=>(intro w hSw;(try dsimp only at hSw);go_simp;(try (with_reducible rfl)))
  (try simp only[Act.put,Sa,Sz,Sc]);refine wpAnyH_take (i:=3) (oi:={dst:=some 29,op:=Op.move (Operand.tmp 1),type:=3,pos:= "fraction.go:173",after:=#[{on:=2,ground:=Ground.guard}],guard:=some (2,true)}) (v:=undef) rfl (by kernel_rfl) (by kernel_rfl) (by kernel_rfl) (fun _ _ _ h=>h) (Or.inr ⟨by rfl,rfl⟩) (by assumption) ?_;(try simp only[Act.put,Sa,Sz,Sc]);refine wpAnyH_take (i:=4) (oi:={dst:=some 30,op:=Op.binOp BinOp.rem 3 (Operand.tmp 29) (Operand.const (Value.int IntKind.i64 2)) 3,type:=3,pos:= "fraction.go:173",after:=#[{on:=3,ground:=Ground.data},{on:=2,ground:=Ground.guard}],guard:=some (2,true)}) (v:=undef) rfl (by kernel_rfl) (by kernel_rfl) (by kernel_rfl) (fun _ _ _ h=>h) (Or.inr ⟨by rfl,rfl⟩) (by assumption) ?_;(try simp only[Act.put,Sa,Sz,Sc]);refine wpAnyH_take (i:=5) (oi:={dst:=some 31,op:=Op.binOp BinOp.eql 3 (Operand.tmp 30) (Operand.const (Value.int IntKind.i64 1)) 3,type:=4,pos:= "fraction.go:173",after:=#[{on:=4,ground:=Ground.data},{on:=2,ground:=Ground.guard}],guard:=some (2,true)}) (v:=undef) rfl (by kernel_rfl) (by kernel_rfl) (by kernel_rfl) (fun _ _ _ h=>h) (Or.inr ⟨by rfl,rfl⟩) (by assumption) ?_;(try simp only[Act.put,Sa,Sz,Sc]);refine wpAnyH_take (i:=6) (oi:={dst:=some 32,op:=Op.pick (Operand.tmp 28) (Operand.tmp 31) (Operand.const (Value.bool false)),type:=4,pos:= "fraction.go:173",after:=#[{on:=2,ground:=Ground.data},{on:=5,ground:=Ground.data}],guard:=none}) (v:=?v6) rfl (by kernel_rfl) (by kernel_rfl) (by kernel_rfl) (fun _ _ _ h=>h) (Or.inl ⟨by rfl,?hy6⟩) (by assumption) ?_
  case hy6=>(intro w hSw;(try dsimp only at hSw);go_simp;(try (with_reducible rfl)))
  (try simp only[Act.put,Sa,Sz,Sc]);refine wpAnyH_take (i:=7) (oi:={dst:=some 33,op:=Op.fieldAddr 55 (Operand.tmp 2) 1,type:=0,pos:= "fraction.go:173",after:=#[],guard:=none}) (v:=?v7) rfl (by kernel_rfl) (by kernel_rfl) (by kernel_rfl) (fun _ _ _ h=>h) (Or.inl ⟨by rfl,?hy7⟩) (by assumption) ?_
  case hy7=>(intro w hSw;(try dsimp only at hSw);go_simp;(try (with_reducible rfl)))
  (try simp only[Act.put,Sa,Sz,Sc]);refine wpAnyH_take (i:=8) (oi:={dst:=some 34,op:=Op.load 53 (Operand.tmp 33),type:=53,pos:= "fraction.go:173",after:=#[{on:=7,ground:=Ground.data}],guard:=none}) (v:=?v8) rfl (by kernel_rfl) (by kernel_rfl) (by kernel_rfl) (fun _ _ _ h=>h) (Or.inl ⟨by rfl,?hy8⟩) (by assumption) ?_
  case hy8=>(intro w hSw;(try dsimp only at hSw);go_simp;(try (with_reducible rfl)))
  (try simp only[Act.put,Sa,Sz,Sc]);refine wpAnyH_take (i:=9) (oi:={dst:=some 35,op:=Op.move (Operand.tmp 1),type:=3,pos:= "fraction.go:173",after:=#[],guard:=none}) (v:=?v9) rfl (by kernel_rfl) (by kernel_rfl) (by kernel_rfl) (fun _ _ _ h=>h) (Or.inl ⟨by rfl,?hy9⟩) (by assumption) ?_
  case hy9=>(intro w hSw;(try dsimp only at hSw);go_simp;(try (with_reducible rfl)))
  (try simp only[Act.put,Sa,Sz,Sc]);refine wpAnyH_take (i:=11) (oi:={dst:=some 37,op:=Op.fieldAddr 55 (Operand.tmp 2) 2,type:=0,pos:= "fraction.go:173",after:=#[],guard:=none}) (v:=?v11) rfl (by kernel_rfl) (by kernel_rfl) (by kernel_rfl) (fun _ _ _ h=>h) (Or.inl ⟨by rfl,?hy11⟩) (by assumption) ?_
  case hy11=>(intro w hSw;(try dsimp only at hSw);go_simp;(try (with_reducible rfl)))
  (try simp only[Act.put,Sa,Sz,Sc]);refine wpAnyH_take (i:=12) (oi:={dst:=some 38,op:=Op.load 53 (Operand.tmp 37),type:=53,pos:= "fraction.go:173",after:=#[{on:=11,ground:=Ground.data}],guard:=none}) (v:=?v12) rfl (by kernel_rfl) (by kernel_rfl) (by kernel_rfl) (fun _ _ _ h=>h) (Or.inl ⟨by rfl,?hy12⟩) (by assumption) ?_
  case hy12=>(intro w hSw;(try dsimp only at hSw);go_simp;(try (with_reducible rfl)))
  (try simp only[Act.put,Sa,Sz,Sc]);refine wpAnyH_take (i:=13) (oi:={dst:=some 39,op:=Op.move (Operand.tmp 1),type:=3,pos:= "fraction.go:173",after:=#[],guard:=none}) (v:=?v13) rfl (by kernel_rfl) (by kernel_rfl) (by kernel_rfl) (fun _ _ _ h=>h) (Or.inl ⟨by rfl,?hy13⟩) (by assumption) ?_
  case hy13=>(intro w hSw;(try dsimp only at hSw);go_simp;(try (with_reducible rfl)))
  (try simp only[Act.put,Sa,Sz,Sc]);refine wpAnyH_ready (rs:=[10]) (by kernel_rfl) (by simp) ?_;refine AllReadyH.cons (o:={dst:=some 36,op:=Op.call {callee:=Callee.value (Operand.func 213),args:=#[Operand.tmp 34,Operand.tmp 35],argTypes:=#[53,3]},type:=53,pos:= "fraction.go:173",after:=#[{on:=8,ground:=Ground.data},{on:=9,ground:=Ground.data},{on:=2,ground:=Ground.chain}],guard:=none}) rfl (fun K hK=>?_) AllReadyH.nil;go_simp;refine(HPn.out _ (HB0.out.trans ((held3' (N:=w.heap.size+1) (W0:=W0) hHeld).mono (by omega)))).mono ?_;rintro e wa ⟨v6,rfl,hRa,hBa⟩;have hKa:=held_any (W0:=W0) (Br _ _).drew hBa;have hKa2:=below_pre hKa hn1;obtain⟨p6,k6,c6,rfl,hx6⟩:=id hRa;clear hx6 hHeld
  try go_wp2_with fail
  refine hK.out _ _ ?_ (fun hHeld=>?_)
  ·exact HS.out _ hKa2
  clear hK K;(try simp only[Act.put,Sa,Sz,Sc]);refine wpAnyH_ready (rs:=[14]) (by kernel_rfl) (by simp) ?_;refine AllReadyH.cons (o:={dst:=some 40,op:=Op.call {callee:=Callee.value (Operand.func 213),args:=#[Operand.tmp 38,Operand.tmp 39],argTypes:=#[53,3]},type:=53,pos:= "fraction.go:173",after:=#[{on:=12,ground:=Ground.data},{on:=13,ground:=Ground.data},{on:=10,ground:=Ground.chain}],guard:=none}) rfl (fun K hK=>?_) AllReadyH.nil;go_simp;refine(HPd.out _ (HB0.out.trans (hKa.mono (by omega)))).mono ?_;rintro e wb ⟨v7,rfl,hRb,hBb⟩;have hKb:=held_any hKa hBb;have hKb2:=below_pre hKb hn1;obtain⟨p7,k7,c7,rfl,hx7⟩:=id hRb;clear hx7 hHeld;obtain⟨x0,x1,x2,y0,y1,y2⟩:=(HV.out.1.below hKb).cells
  try go_wp2_with fail
  refine hK.out _ _ ?_ (fun hHeld=>?_)
  ·exact HS.out _ hKb2
  clear hK K;(try simp only[Act.put,Sa,Sz,Sc]);refine wpAnyH_take (i:=15) (oi:={dst:=some 41,op:=Op.build 55 #[(0,Operand.tmp 32),(1,Operand.tmp 36),(2,Operand.tmp 40)],type:=55,pos:= "fraction.go:173",after:=#[{on:=6,ground:=Ground.data},{on:=10,ground:=Ground.data},{on:=14,ground:=Ground.data}],guard:=none}) (v:=?v15) rfl (by kernel_rfl) (by kernel_rfl) (by kernel_rfl) (fun _ _ _ h=>h) (Or.inl ⟨by rfl,?hy15⟩) (by assumption) ?_
  case hy15=>(intro w hSw;(try dsimp only at hSw);go_simp;(try (with_reducible rfl)))
  (try simp only[Act.put,Sa,Sz,Sc]);refine wpAnyH_ready (rs:=[16]) (by kernel_rfl) (by simp) ?_;refine AllReadyH.cons (o:={dst:=none,op:=Op.store 55 (Operand.tmp 4) (Operand.tmp 41),type:=0,pos:= "fraction.go:173",after:=#[{on:=15,ground:=Ground.data},{on:=14,ground:=Ground.chain},{on:=0,ground:=Ground.phase},{on:=1,ground:=Ground.phase},{on:=2,ground:=Ground.phase},{on:=3,ground:=Ground.phase},{on:=4,ground:=Ground.phase},{on:=5,ground:=Ground.phase},{on:=6,ground:=Ground.phase},{on:=7,ground:=Ground.phase},{on:=8,ground:=Ground.phase},{on:=9,ground:=Ground.phase},{on:=10,ground:=Ground.phase},{on:=11,ground:=Ground.phase},{on:=12,ground:=Ground.phase},{on:=13,ground:=Ground.phase},{on:=14,ground:=Ground.phase},{on:=15,ground:=Ground.phase}],guard:=none}) rfl (fun K hK=>?_) AllReadyH.nil;go_simp
  try go_wp2_with fail
  refine hK.out _ _ ?_ (fun hHeld=>?_)
  ·exact HS.out _ (below_set3 hKb2 (Lr _))
  clear hK K;(try simp only[Act.put,Sa,Sz,Sc]);refine wpAnyH_take (i:=17) (oi:={dst:=some 5,op:=Op.assign (Operand.const (Value.int IntKind.i64 0)),type:=27,pos:= "fraction.go:173",after:=#[{on:=16,ground:=Ground.chain},{on:=0,ground:=Ground.phase},{on:=1,ground:=Ground.phase},{on:=2,ground:=Ground.phase},{on:=3,ground:=Ground.phase},{on:=4,ground:=Ground.phase},{on:=5,ground:=Ground.phase},{on:=6,ground:=Ground.phase},{on:=7,ground:=Ground.phase},{on:=8,ground:=Ground.phase},{on:=9,ground:=Ground.phase},{on:=10,ground:=Ground.phase},{on:=11,ground:=Ground.phase},{on:=12,ground:=Ground.phase},{on:=13,ground:=Ground.phase},{on:=14,ground:=Ground.phase},{on:=15,ground:=Ground.phase},{on:=16,ground:=Ground.phase}],guard:=none}) (v:=?v17) rfl (by kernel_rfl) (by kernel_rfl) (by kernel_rfl) (fun _ _ _ h=>h) (Or.inl ⟨by rfl,?hy17⟩) (by assumption) ?_
  case hy17=>(intro w hSw;(try dsimp only at hSw);go_simp;(try (with_reducible rfl)))
  (try simp only[Act.put,Sa,Sz,Sc]);refine wpAnyH_done (by kernel_rfl) ?_ _;have HVb:=HV.out.1.below hKb;go_wp2_with fail;exact FracPow_ret rfl rfl (HVb.store trivial trivial trivial) ⟨below_set3 (HV.out.2.trans (hKb.mono (by omega))) (Nat.le_succ _),.inr ⟨rfl,_,_,_,_,_,_,_,rfl,hid ⟨_,_,rfl,(hRa.below hBb).store3 HVb _ _ _,hRb.store3 HVb _ _ _⟩⟩⟩
 ·cases b
  all_goals
   go_region_held3 (fun w'=>w'.cell? ⟨w.heap.size,0,none⟩=some (.bool true)∧w'.cell? ⟨w.heap.size,1,none⟩=some (.slice p1 k1 c1)∧w'.cell? ⟨w.heap.size,2,none⟩=some (.slice p2 k2 c2)∧Hid (Below (w.heap.size+1) W0 w'))
    (first | exact HS.out _ (Br _ _).drew | (exact HS.out _ (by assumption)) | exact HS.out _ (below_set3 (by assumption) (Lr _)))
    (first
     | (go_at_call_of 213 k1;refine(HPn.out _ (HB0.out.trans ((held3' (N:=w.heap.size+1) (W0:=W0) (by assumption)).mono (by omega)))).mono ?_;rintro e wa ⟨v6,rfl,hRa,hBa⟩;have hKa:=held_any (by first | assumption | exact(Br _ _).drew) hBa;have hKa2:=below_pre hKa hn1;obtain⟨p6,k6,c6,rfl,hx6⟩:=id hRa;clear hx6)
     | (go_at_call_of 213 k2;refine(HPd.out _ (HB0.out.trans ((held3' (N:=w.heap.size+1) (W0:=W0) (by assumption)).mono (by omega)))).mono ?_;rintro e wb ⟨v7,rfl,hRb,hBb⟩;have hKb:=held_any (by first | assumption | exact(Br _ _).drew) hBb;have hKb2:=below_pre hKb hn1;obtain⟨p7,k7,c7,rfl,hx7⟩:=id hRb;clear hx7;obtain⟨x0,x1,x2,y0,y1,y2⟩:=(HV.out.1.below hKb).cells))
   rename_i hHeld
   clear hHeld
   have HVb:=HV.out.1.below hKb
   go_wp2_with fail
   exact FracPow_ret rfl rfl (HVb.store trivial trivial trivial) ⟨below_set3 (HV.out.2.trans (hKb.mono (by omega))) (Nat.le_succ _),.inr ⟨rfl,_,_,_,_,_,_,_,rfl,hid ⟨_,_,rfl,(hRa.below hBb).store3 HVb _ _ _,hRb.store3 HVb _ _ _⟩⟩⟩
theorem FRes.any{w:World}{e:Ending}{c}{t:Tq}(h:FRes w e c t):∃sg pa ka ca pb kb cb,e=.returned (.tuple #[.agg #[.bool sg,.slice pa ka ca,.slice pb kb cb],.int .i64 c])∧Hid (c=0→FNorm w (.agg #[.bool sg,.slice pa ka ca,.slice pb kb cb]) t):=by
 rcases h with ⟨h0,rfl⟩ | ⟨rfl,sg,pa,ka,ca,pb,kb,cb,rfl,hF⟩
 ·exact⟨false,none,0,0,none,0,0,rfl,hid fun h=>absurd h h0⟩
 ·exact⟨sg,pa,ka,ca,pb,kb,cb,rfl,hid fun _=>hF.out⟩
open Go.RowKit Dg Rt
def BoxG (w:World) (F:Nat) (b:Bool):Prop:=∃t,w.heap[F]?=some (.cells #[.bool b] t (0,0))
theorem BoxG.lt{w:World}{F:Nat}{b:Bool}(h:BoxG w F b):F < w.heap.size:=by
 obtain⟨t,h0⟩:=h;exact(Array.getElem?_eq_some_iff.1 h0).1
theorem BoxG.keep{w w':World}{F N:Nat}{b:Bool}(h:BoxG w F b)(hN:F < N)(hb:Below N w w'):BoxG w' F b:=by
 obtain⟨t,h0⟩:=h;exact⟨t,by rw[hb.block _ hN];exact h0⟩
theorem BoxG.below{w w':World}{F:Nat}{b:Bool}(h:BoxG w F b)(hb:Bw w w'):BoxG w' F b:=h.keep h.lt hb
theorem BoxG.cell{w:World}{F:Nat}{b}(h:BoxG w F b):w.cell? ⟨F,0,none⟩=some (.bool b)∧w.frozen? ⟨F,0,none⟩=false:=by
 obtain⟨t,h0⟩:=h;simp [World.cell?,World.frozen?,h0]
theorem BoxG.set{w:World}{F:Nat}{b:Bool}(h:BoxG w F b)(c):BoxG (w.setCell ⟨F,0,none⟩ (.bool c)) F c:=by
 obtain⟨t,h0⟩:=h;exact⟨t,heap_setCell_same w F 0 _ t _ h0⟩
theorem BoxG.other{w:World}{F B:Nat}{b:Bool}(h:BoxG w F b)(hne:F≠B)(k:Nat)(u:Value):BoxG (w.setCell ⟨B,k,none⟩ u) F b:=by
 obtain⟨t,h0⟩:=h;exact⟨t,by rw[Below.heap_setCell _ _ _ _ hne];exact h0⟩
def UponF (F:Nat) (W w':World):Prop:=Below F W w'∧∀i,F < i→i < W.heap.size→w'.heap[i]?=W.heap[i]?
theorem UponF.of_below{F:Nat}{W w':World}(h:Bw W w')(hF:F < W.heap.size):UponF F W w':=⟨h.mono (Nat.le_of_lt hF),fun i _ hi=>h.block i hi⟩
theorem UponF.below{F:Nat}{W w1 w2:World}(h:UponF F W w1)(hF:F < W.heap.size)(hb:Bw w1 w2):UponF F W w2:=
 ⟨h.1.trans (hb.mono (Nat.le_trans (Nat.le_of_lt hF) h.1.size)),fun i h1 h2=>(hb.block i (Nat.lt_of_lt_of_le h2 h.1.size)).trans (h.2 i h1 h2)⟩
theorem pow_B{x A m:Nat}(hx:x < B16 ^ A):x ^ m < B16 ^ (A*m+1):=by
 have h1:x ^ m≤(B16 ^ A) ^ m:=Nat.pow_le_pow_left (Nat.le_of_lt hx) m;rw[←Nat.pow_mul] at h1;exact Nat.lt_of_le_of_lt h1 (Nat.pow_lt_pow_right (by decide) (Nat.lt_succ_self _))
theorem pow_Bb{x A m:Nat}(hx:x < B16 ^ A)(hA:A≤1000)(hm:m≤256):x ^ m < B16 ^ 300000:=by
 have h:=pow_B (m:=m) hx
 have hk:A*m+1≤300000:=by have:A*m≤1000*256:=Nat.mul_le_mul hA hm;omega
 generalize 300000=k at *;exact b_bigk h hk
set_option maxHeartbeats 4000000 in
set_option maxRecDepth 100000 in
theorem NatPow_any(va:Value)(x n A:Nat)(w:World)(ha:Rep B16 w va x)(hx:x < B16 ^ A)(hA:A≤1000)(hn:n < 256):
  Calls Tryz.prog 188 #[va,.int .i64 n] w fun e w'=>∃v,e=.returned v∧Rep B16 w' v (x ^ n)∧Bw w w':=by
 have HA:=hid ha;have HX:=hid (Ai hx hA);have HOf:=hid (NatOf_any 1 w (by decide));clear ha hx hA;go_enter Tryz.func188,Tryz.ntmps188;go_wp2_with fail;refine HOf.out.mono ?_;rintro e w1 ⟨v1,rfl,hR1,hB1⟩;clear HOf;go_wp2_with fail
 go_loopw [5,8] (fun v i wr=>∃k:Nat,k≤n∧i=.int .i64 (k:Int)∧Rep B16 wr v (x ^ k)∧Bw w wr) (fun _ i _=>n - (intOf i).toNat)
 case atStart=>exact⟨0,Nat.zero_le _,rfl,by rw[Nat.pow_zero];exact hR1,hB1⟩
 case round=>
  obtain⟨k,hk,rfl,hR,hB⟩:=hrel
  by_cases hlt:k < n
  ·have HM:=hid (NatMul_any u5 va (x ^ k) x wr hR (HA.out.below hB) (b_big (pow_Bb HX.out.1 HX.out.2 (show k≤256 by omega)) (by omega)) (b_big HX.out.1 (by have:=HX.out.2;omega)));have HB:=hid hB;clear hR hB hR1 hB1;go_wp2_with fail;refine HM.out.mono ?_;rintro e w2 ⟨v2,rfl,hR2,hB2⟩;rw[←Nat.pow_succ] at hR2;have HR2:=hid (Ai hR2 (HB.out.trans (hB2.mono HB.out.size)));clear hR2 hB2;go_wp2_with fail
   go_roundw
   case rel=>exact⟨k+1,by omega,by go_num,HR2.out.1,HR2.out.2⟩
   case measure=>simp [intOf];omega
  ·obtain rfl:k=n:=by omega
   have HR:=hid (Ai hR hB);clear hR hB hR1 hB1;go_wp2_with fail
   go_ret
   exact⟨_,rfl,HR.out.1,HR.out.2⟩
theorem rPower_ret{W:World}{B:Nat}{x y z:Value}{tm:Array Value}{R:Ending→World→Prop}(h2:tm[4]?.getD undef=.pointer (some ⟨B,0,none⟩))(hV:Var3 W B x y z)(hR:R (.returned (.agg #[x,y,z])) W):
  bodyPost Tryz.prog Tryz.f132 R .ret {tmps:=tm,defers:=[]} W:=by
 obtain⟨c0,c1,c2,_,_,_⟩:=hV.cells;exact bodyPost_ret (v:=.agg #[x,y,z]) (by simp [results,Tryz.results132,go_sem,h2,c0,c1,c2]) rfl hR
theorem UponF.drew{F:Nat}{W w':World}(h:UponF F W w'):UponF F W w'.drew:=⟨h.1.drew,h.2⟩
end Go.Proofs.YtheojajaefjecaaGreatDoor
