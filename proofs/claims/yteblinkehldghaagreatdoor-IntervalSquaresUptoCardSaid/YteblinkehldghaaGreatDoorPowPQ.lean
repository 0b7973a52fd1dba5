/- Grids: what Down and Up of a fraction are, and that both ways to say it agree. -/
import Derived.Test.YteblinkehldghaaGreatDoorBase
import Derived.Test.YteblinkehldghaaGreatDoorFracA
import Derived.Test.YteblinkehldghaaGreatDoorFracX
import Derived.Test.YteblinkehldghaaGreatDoorGrd
import Derived.Test.YteblinkehldghaaGreatDoorLawD
import Derived.Test.YteblinkehldghaaGreatDoorLen32
import Derived.Test.YteblinkehldghaaGreatDoorNatB
import Derived.Test.YteblinkehldghaaGreatDoorNatE
import Derived.Test.YteblinkehldghaaGreatDoorNatK
import Derived.Test.YteblinkehldghaaGreatDoorNatR
import Derived.Test.YteblinkehldghaaGreatDoorNatU
import Derived.Test.YteblinkehldghaaGreatDoorNatW
import Derived.Test.YteblinkehldghaaGreatDoorNumX
import Derived.Test.YteblinkehldghaaGreatDoorPowAQ
import Derived.Test.YteblinkehldghaaGreatDoorRefK
import Derived.Test.YteblinkehldghaaGreatDoorRefN
import Derived.Test.YteblinkehldghaaGreatDoorRefP
import Derived.Test.YteblinkehldghaaGreatDoorRefT
import Derived.Test.YteblinkehldghaaGreatDoorRefX
import Derived.Test.YteblinkehldghaaGreatDoorRefY
set_option maxHeartbeats 8000000
set_option maxRecDepth 100000
namespace Go.Proofs.YteblinkehldghaaGreatDoor
open Go.RowKit Dg
open And renaming intro→Ai
open List renaming setIfInBounds_toArray→Sa,set_cons_zero→Sz,set_cons_succ→Sc
open Nat renaming le_refl→Lr
open Go.RowKit.Below renaming refl→Br
def fpow (t:Tq) (k:Nat):Tq:=(t.1 && decide (k % 2=1),t.2.1 ^ k,t.2.2 ^ k)
def frinv (t:Tq):Tq:=frac t.1 t.2.2 t.2.1
theorem IsFr.pow{t:Tq}(h:IsFr t)(k:Nat):IsFr (fpow t k):=by
 obtain⟨s,n,d,hd,rfl⟩:=h;have hg:=frac_gcd (s:=s) (n:=n) hd;have hz:=frac_zero_sign (s:=s) (n:=n) hd;have hp:=frac_pos (s:=s) (n:=n) hd;generalize frac s n d=t at *;refine⟨t.1 && decide (k % 2=1),t.2.1 ^ k,t.2.2 ^ k,Nat.pow_pos hp,?_⟩;have hc:Nat.gcd (t.2.1 ^ k) (t.2.2 ^ k)=1:=Nat.Coprime.pow k k hg;unfold fpow frac;rw[hc,Nat.div_one,Nat.div_one]
 by_cases h0:t.2.1 ^ k=0
 ·have h1:t.2.1=0:=by
   rcases Nat.eq_zero_or_pos t.2.1 with h | h
   ·exact h
   ·have:=Nat.pow_pos (n:=k) h;omega
  rw[hz h1];simp
 ·rw[decide_eq_true (show t.2.1 ^ k≠0 from h0),Bool.and_true]
theorem fmul_one_inv(t:Tq):fmul (false,1,1) (t.1,t.2.2,t.2.1)=frinv t:=by
 unfold fmul frinv;simp
open Go.RowKit Dg Rt
theorem isFr_lowest{t:Tq}(h:IsFr t):Nat.gcd t.2.1 t.2.2=1∧0 < t.2.2∧(t.2.1=0→t.1=false):=by
 obtain⟨s,n,d,hd,rfl⟩:=h;exact⟨frac_gcd hd,frac_pos hd,frac_zero_sign hd⟩
theorem sv_abs(s:Bool)(n:Nat):(sv s n).natAbs=n:=by
 unfold sv;cases s<;>simp
theorem fcmp_zero_iff{x y:Tq}(hx:IsFr x)(hy:IsFr y):fcmp x y=0↔x=y:=by
 obtain⟨gx,px,zx⟩:=isFr_lowest hx;obtain⟨gy,py,zy⟩:=isFr_lowest hy;constructor
 ·intro h
  have he:sv x.1 x.2.1*(y.2.2:Int)=sv y.1 y.2.1*(x.2.2:Int):=by
   unfold fcmp cmpI at h
   split at h
   ·exact absurd h (by decide)
   ·split at h
    ·exact absurd h (by decide)
    ·omega
  have hn:x.2.1*y.2.2=y.2.1*x.2.2:=by
   have:=congrArg Int.natAbs he
   rwa [Int.natAbs_mul,Int.natAbs_mul,sv_abs,sv_abs,Int.natAbs_natCast,Int.natAbs_natCast] at this
  have d1:x.2.2 ∣ y.2.2:=(Nat.Coprime.symm gx).dvd_of_dvd_mul_left ⟨y.2.1,by rw[hn,Nat.mul_comm]⟩;have d2:y.2.2 ∣ x.2.2:=(Nat.Coprime.symm gy).dvd_of_dvd_mul_left ⟨x.2.1,by rw[←hn,Nat.mul_comm]⟩;have hd:x.2.2=y.2.2:=Nat.dvd_antisymm d1 d2;rw[hd] at hn he;have hnn:x.2.1=y.2.1:=Nat.eq_of_mul_eq_mul_right py hn
  have hs:x.1=y.1:=by
   have he2:sv x.1 x.2.1=sv y.1 y.2.1:=Int.eq_of_mul_eq_mul_right (by omega) he;rw[hnn] at he2
   rcases Nat.eq_zero_or_pos y.2.1 with h0 | h0
   ·rw[zx (hnn.trans h0),zy h0]
   ·unfold sv at he2
    cases h1:x.1<;>cases h2:y.1<;>simp [h1,h2] at he2 ⊢<;>omega
  obtain⟨a,b,c⟩:=x;obtain⟨a',b',c'⟩:=y;simp only at hs hnn hd;rw[hs,hnn,hd]
 ·rintro rfl;unfold fcmp cmpI;rw[if_neg (Int.lt_irrefl _),if_neg (Int.lt_irrefl _)]
theorem FracPow_ret{W:World}{B:Nat}{x y z ev:Value}{tm:Array Value}{R:Ending→World→Prop}(h2:tm[4]?.getD undef=.pointer (some ⟨B,0,none⟩))(h3:tm[5]?.getD undef=ev)(hV:Var3 W B x y z)
  (hR:R (.returned (.tuple #[.agg #[x,y,z],ev])) W):bodyPost Tryz.prog Tryz.f117 R .ret {tmps:=tm,defers:=[]} W:=by
 obtain⟨c0,c1,c2,_,_,_⟩:=hV.cells;exact bodyPost_ret (v:=.tuple #[.agg #[x,y,z],ev]) (by simp [results,Tryz.results117,go_sem,h2,h3,c0,c1,c2]) rfl hR
set_option maxHeartbeats 8000000 in
set_option maxRecDepth 100000 in
theorem FracPowPos_any(v:Value)(t:Tq)(k:Nat)(w:World)(h:FNorm w v t)(hn:t.2.1 < W32 ^ 1000)(hd:t.2.2 < W32 ^ 1000)(hk:k < 256):
  Calls Tryz.prog 117 #[v,.int .i64 (k:Int)] w fun e w'=>Bw w w'∧FRes w' e 0 (fpow t k):=by
 obtain⟨vn1,vd1,rfl,hrn,hrd⟩:=h;have HPn:=hid (fun (W:World) (hW:Bw w W)=>Pow_any vn1 t.2.1 k 1000 W (hrn.below hW) hn (Lr _) hk);have HPd:=hid (fun (W:World) (hW:Bw w W)=>Pow_any vd1 t.2.2 k 1000 W (hrd.below hW) hd (Lr _) hk);obtain⟨b,hb⟩:∃b,b=decide (k % 2=1):=⟨_,rfl⟩
 have ho1:((k:Int) % 2 == 1)=b:=by
  rw[hb]
  by_cases h:k % 2=1
  ·rw[decide_eq_true h,show(k:Int) % 2=1 by omega];rfl
  ·rw[decide_eq_false h,show(k:Int) % 2=0 by omega];rfl
 have ho2:(Int.tmod (k:Int) 2 == 1)=b:=by rw[Int.tmod_eq_emod_of_nonneg (by omega)];exact ho1
 have hneg:decide ((k:Int) < 0)=false:=decide_eq_false (by omega)
 show Calls _ _ _ _ fun e w'=>Bw w w'∧FRes w' e 0 (t.1 && decide (k % 2=1),t.2.1 ^ k,t.2.2 ^ k)
 rw[←hb];clear hn hd hk hb;obtain⟨N,hN⟩:∃b,b=t.2.1 ^ k:=⟨_,rfl⟩;obtain⟨D,hD⟩:∃b,b=t.2.2 ^ k:=⟨_,rfl⟩;rw[←hN] at HPn ⊢;rw[←hD] at HPd ⊢;clear hN hD;obtain⟨p1,k1,c1,rfl,_⟩:=hrn;obtain⟨p2,k2,c2,rfl,_⟩:=hrd;obtain⟨s1,hs1⟩:∃s,s=t.1:=⟨_,rfl⟩;rw[←hs1];clear hs1;have hal:=below_alloc2 w (.cells #[.bool s1,.slice p1 k1 c1,.slice p2 k2 c2] 48) (.cells #[.bool false,.slice none 0 0,.slice none 0 0] 48);have hVa:=(Var3.alloc w (x:=.bool s1) (y:=.slice p1 k1 c1) (z:=.slice p2 k2 c2) 48 trivial trivial trivial).below ((Br _ _).alloc (Lr _) (.cells #[.bool false,.slice none 0 0,.slice none 0 0] 48));have hVr:=Var3.alloc2 w (.cells #[.bool s1,.slice p1 k1 c1,.slice p2 k2 c2] 48) (x:=.bool false) (y:=.slice none 0 0) (z:=.slice none 0 0) 48 trivial trivial trivial;go_enter Tryz.func117,Tryz.ntmps117;go_upto_region 1 with fail;generalize(w.alloc (.cells #[.bool s1,.slice p1 k1 c1,.slice p2 k2 c2] 48)).alloc (.cells #[.bool false,.slice none 0 0,.slice none 0 0] 48)=W0 at *
 have hn1:w.heap.size+1≤W0.heap.size:=by obtain⟨_,h0,_⟩:=hVr;exact Nat.le_of_lt (Array.getElem?_eq_some_iff.1 h0).1
 have HV:=hid (Ai hVr hal);have HB0:=hid hal;obtain⟨a0,a1,a2,_⟩:=id hVa.cells
 have HS:Hid (∀w',Below (w.heap.size+1) W0 w'→(w'.cell? ⟨w.heap.size,0,none⟩=some (.bool s1)∧w'.cell? ⟨w.heap.size,1,none⟩=some (.slice p1 k1 c1)∧w'.cell? ⟨w.heap.size,2,none⟩=some (.slice p2 k2 c2)∧Hid (Below (w.heap.size+1) W0 w'))):=
  hid fun w' hb=>⟨(bcellN hb _ _ (by omega)).trans hVa.cells.1,(bcellN hb _ _ (by omega)).trans hVa.cells.2.1,(bcellN hb _ _ (by omega)).trans hVa.cells.2.2.1,hid hb⟩
 clear hVr hVa hal;go_wp2_with fail;cases s1
 ·refine wp_region_held_drew (S:=fun w'=>w'.cell? ⟨w.heap.size,0,none⟩=some (.bool false)∧w'.cell? ⟨w.heap.size,1,none⟩=some (.slice p1 k1 c1)∧w'.cell? ⟨w.heap.size,2,none⟩=some (.slice p2 k2 c2)∧Hid (Below (w.heap.size+1) W0 w')) (by kernel_rfl) (HS.out _ (Br _ _).drew) (fun hHeld=>?_);refine wpAnyH_take (i:=0) (oi:={dst:=some 26,op:=Op.fieldAddr 48 (Operand.tmp 2) 0,type:=0,pos:= "fraction.go:173",after:=#[],guard:=none}) (v:=?v0) rfl (by kernel_rfl) (by kernel_rfl) (by kernel_rfl) (fun _ _ _ h=>h) (Or.inl ⟨by rfl,?hy0⟩) (by assumption) ?_
  case hy0=>(intro w hSw;(try dsimp only at hSw);go_simp;(try (with_reducible rfl)))
  (try simp only[Act.put,Sa,Sz,Sc]);refine wpAnyH_take (i:=1) (oi:={dst:=some 27,op:=Op.load 4 (Operand.tmp 26),type:=4,pos:= "fraction.go:173",after:=#[{on:=0,ground:=Ground.data}],guard:=none}) (v:=?v1) rfl (by kernel_rfl) (by kernel_rfl) (by kernel_rfl) (fun _ _ _ h=>h) (Or.inl ⟨by rfl,?hy1⟩) (by assumption) ?_
  case hy1=>(intro w hSw;(try dsimp only at hSw);go_simp;(try (with_reducible rfl)))
  (try simp only[Act.put,Sa,Sz,Sc]);refine wpAnyH_take (i:=2) (oi:={dst:=some 28,op:=Op.move (Operand.tmp 27),type:=4,pos:= "fraction.go:173",after:=#[{on:=1,ground:=Ground.data}],guard:=none}) (v:=?v2) rfl (by kernel_rfl) (by kernel_rfl) (by kernel_rfl) (fun _ _ _ h=>h) (Or.inl ⟨by rfl,?hy2⟩) (by assumption) ?_
  case hy2=>(intro w hSw;(try dsimp only at hSw);go_simp;(try (with_reducible rfl)))
  (try simp only[Act.put,Sa,Sz,Sc]);refine wpAnyH_take (i:=3) (oi:={dst:=some 29,op:=Op.move (Operand.tmp 1),type:=3,pos:= "fraction.go:173",after:=#[{on:=2,ground:=Ground.guard}],guard:=some (2,true)}) (v:=undef) rfl (by kernel_rfl) (by kernel_rfl) (by kernel_rfl) (fun _ _ _ h=>h) (Or.inr ⟨by rfl,rfl⟩) (by assumption) ?_;(try simp only[Act.put,Sa,Sz,Sc]);refine wpAnyH_take (i:=4) (oi:={dst:=some 30,op:=Op.binOp BinOp.rem 3 (Operand.tmp 29) (Operand.const (Value.int IntKind.i64 2)) 3,type:=3,pos:= "fraction.go:173",after:=#[{on:=3,ground:=Ground.data},{on:=2,ground:=Ground.guard}],guard:=some (2,true)}) (v:=undef) rfl (by kernel_rfl) (by kernel_rfl) (by kernel_rfl) (fun _ _ _ h=>h) (Or.inr ⟨by rfl,rfl⟩) (by assumption) ?_;(try simp only[Act.put,Sa,Sz,Sc]);refine wpAnyH_take (i:=5) (oi:={dst:=some 31,op:=Op.binOp BinOp.eql 3 (Operand.tmp 30) (Operand.const (Value.int IntKind.i64 1)) 3,type:=4,pos:= "fraction.go:173",after:=#[{on:=4,ground:=Ground.data},{on:=2,ground:=Ground.guard}],guard:=some (2,true)}) (v:=undef) rfl (by kernel_rfl) (by kernel_rfl) (by kernel_rfl) (fun _ _ _ h=>h) (Or.inr ⟨by rfl,rfl⟩) (by assumption) ?_;(try simp only[Act.put,Sa,Sz,Sc]);refine wpAnyH_take (i:=6) (oi:={dst:=some 32,op:=Op.pick (Operand.tmp 28) (Operand.tmp 31) (Operand.const (Value.bool false)),type:=4,pos:= "fraction.go:173",after:=#[{on:=2,ground:=Ground.data},{on:=5,ground:=Ground.data}],guard:=none}) (v:=?v6) rfl (by kernel_rfl) (by kernel_rfl) (by kernel_rfl) (fun _ _ _ h=>h) (Or.inl ⟨by rfl,?hy6⟩) (by assumption) ?_
  case hy6=>(intro w hSw;(try dsimp only at hSw);go_simp;(try (with_reducible rfl)))
  (try simp only[Act.put,Sa,Sz,Sc]);refine wpAnyH_take (i:=7) (oi:={dst:=some 33,op:=Op.fieldAddr 48 (Operand.tmp 2) 1,type:=0,pos:= "fraction.go:173",after:=#[],guard:=none}) (v:=?v7) rfl (by kernel_rfl) (by kernel_rfl) (by kernel_rfl) (fun _ _ _ h=>h) (Or.inl ⟨by rfl,?hy7⟩) (by assumption) ?_
  case hy7=>(intro w hSw;(try dsimp only at hSw);go_simp;(try (with_reducible rfl)))
  (try simp only[Act.put,Sa,Sz,Sc]);refine wpAnyH_take (i:=8) (oi:={dst:=some 34,op:=Op.load 46 (Operand.tmp 33),type:=46,pos:= "fraction.go:173",after:=#[{on:=7,ground:=Ground.data}],guard:=none}) (v:=?v8) rfl (by kernel_rfl) (by kernel_rfl) (by kernel_rfl) (fun _ _ _ h=>h) (Or.inl ⟨by rfl,?hy8⟩) (by assumption) ?_
  case hy8=>(intro w hSw;(try dsimp only at hSw);go_simp;(try (with_reducible rfl)))
  (try simp only[Act.put,Sa,Sz,Sc]);refine wpAnyH_take (i:=9) (oi:={dst:=some 35,op:=Op.move (Operand.tmp 1),type:=3,pos:= "fraction.go:173",after:=#[],guard:=none}) (v:=?v9) rfl (by kernel_rfl) (by kernel_rfl) (by kernel_rfl) (fun _ _ _ h=>h) (Or.inl ⟨by rfl,?hy9⟩) (by assumption) ?_
  case hy9=>(intro w hSw;(try dsimp only at hSw);go_simp;(try (with_reducible rfl)))
  (try simp only[Act.put,Sa,Sz,Sc]);refine wpAnyH_take (i:=11) (oi:={dst:=some 37,op:=Op.fieldAddr 48 (Operand.tmp 2) 2,type:=0,pos:= "fraction.go:173",after:=#[],guard:=none}) (v:=?v11) rfl (by kernel_rfl) (by kernel_rfl) (by kernel_rfl) (fun _ _ _ h=>h) (Or.inl ⟨by rfl,?hy11⟩) (by assumption) ?_
  case hy11=>(intro w hSw;(try dsimp only at hSw);go_simp;(try (with_reducible rfl)))
  (try simp only[Act.put,Sa,Sz,Sc]);refine wpAnyH_take (i:=12) (oi:={dst:=some 38,op:=Op.load 46 (Operand.tmp 37),type:=46,pos:= "fraction.go:173",after:=#[{on:=11,ground:=Ground.data}],guard:=none}) (v:=?v12) rfl (by kernel_rfl) (by kernel_rfl) (by kernel_rfl) (fun _ _ _ h=>h) (Or.inl ⟨by rfl,?hy12⟩) (by assumption) ?_
  case hy12=>(intro w hSw;(try dsimp only at hSw);go_simp;(try (with_reducible rfl)))
  (try simp only[Act.put,Sa,Sz,Sc]);refine wpAnyH_take (i:=13) (oi:={dst:=some 39,op:=Op.move (Operand.tmp 1),type:=3,pos:= "fraction.go:173",after:=#[],guard:=none}) (v:=?v13) rfl (by kernel_rfl) (by kernel_rfl) (by kernel_rfl) (fun _ _ _ h=>h) (Or.inl ⟨by rfl,?hy13⟩) (by assumption) ?_
  case hy13=>(intro w hSw;(try dsimp only at hSw);go_simp;(try (with_reducible rfl)))
  (try simp only[Act.put,Sa,Sz,Sc]);refine wpAnyH_ready (rs:=[10]) (by kernel_rfl) (by simp) ?_;refine AllReadyH.cons (o:={dst:=some 36,op:=Op.call {callee:=Callee.value (Operand.func 149),args:=#[Operand.tmp 34,Operand.tmp 35],argTypes:=#[46,3]},type:=46,pos:= "fraction.go:173",after:=#[{on:=8,ground:=Ground.data},{on:=9,ground:=Ground.data},{on:=2,ground:=Ground.chain}],guard:=none}) rfl (fun K hK=>?_) AllReadyH.nil;go_simp;refine(HPn.out _ (HB0.out.trans ((held3' (N:=w.heap.size+1) (W0:=W0) hHeld).mono (by omega)))).mono ?_;rintro e wa ⟨v6,rfl,hRa,hBa⟩;have hKa:=held_any (W0:=W0) (Br _ _).drew hBa;have hKa2:=below_pre hKa hn1;obtain⟨p6,k6,c6,rfl,hx6⟩:=id hRa;clear hx6 hHeld
  try go_wp2_with fail
  refine hK.out _ _ ?_ (fun hHeld=>?_)
  ·exact HS.out _ hKa2
  clear hK K;(try simp only[Act.put,Sa,Sz,Sc]);refine wpAnyH_ready (rs:=[14]) (by kernel_rfl) (by simp) ?_;refine AllReadyH.cons (o:={dst:=some 40,op:=Op.call {callee:=Callee.value (Operand.func 149),args:=#[Operand.tmp 38,Operand.tmp 39],argTypes:=#[46,3]},type:=46,pos:= "fraction.go:173",after:=#[{on:=12,ground:=Ground.data},{on:=13,ground:=Ground.data},{on:=10,ground:=Ground.chain}],guard:=none}) rfl (fun K hK=>?_) AllReadyH.nil;go_simp;refine(HPd.out _ (HB0.out.trans (hKa.mono (by omega)))).mono ?_;rintro e wb ⟨v7,rfl,hRb,hBb⟩;have hKb:=held_any hKa hBb;have hKb2:=below_pre hKb hn1;obtain⟨p7,k7,c7,rfl,hx7⟩:=id hRb;clear hx7 hHeld;obtain⟨x0,x1,x2,y0,y1,y2⟩:=(HV.out.1.below hKb).cells
  try go_wp2_with fail
  refine hK.out _ _ ?_ (fun hHeld=>?_)
  ·exact HS.out _ hKb2
  clear hK K;(try simp only[Act.put,Sa,Sz,Sc]);refine wpAnyH_take (i:=15) (oi:={dst:=some 41,op:=Op.build 48 #[(0,Operand.tmp 32),(1,Operand.tmp 36),(2,Operand.tmp 40)],type:=48,pos:= "fraction.go:173",after:=#[{on:=6,ground:=Ground.data},{on:=10,ground:=Ground.data},{on:=14,ground:=Ground.data}],guard:=none}) (v:=?v15) rfl (by kernel_rfl) (by kernel_rfl) (by kernel_rfl) (fun _ _ _ h=>h) (Or.inl ⟨by rfl,?hy15⟩) (by assumption) ?_
  case hy15=>(intro w hSw;(try dsimp only at hSw);go_simp;(try (with_reducible rfl)))
  (try simp only[Act.put,Sa,Sz,Sc]);refine wpAnyH_ready (rs:=[16]) (by kernel_rfl) (by simp) ?_;refine AllReadyH.cons (o:={dst:=none,op:=Op.store 48 (Operand.tmp 4) (Operand.tmp 41),type:=0,pos:= "fraction.go:173",after:=#[{on:=15,ground:=Ground.data},{on:=14,ground:=Ground.chain},{on:=0,ground:=Ground.phase},{on:=1,ground:=Ground.phase},{on:=2,ground:=Ground.phase},{on:=3,ground:=Ground.phase},{on:=4,ground:=Ground.phase},{on:=5,ground:=Ground.phase},{on:=6,ground:=Ground.phase},{on:=7,ground:=Ground.phase},{on:=8,ground:=Ground.phase},{on:=9,ground:=Ground.phase},{on:=10,ground:=Ground.phase},{on:=11,ground:=Ground.phase},{on:=12,ground:=Ground.phase},{on:=13,ground:=Ground.phase},{on:=14,ground:=Ground.phase},{on:=15,ground:=Ground.phase}],guard:=none}) rfl (fun K hK=>?_) AllReadyH.nil;go_simp
  try go_wp2_with fail
  refine hK.out _ _ ?_ (fun hHeld=>?_)
  ·exact HS.out _ (below_set3 hKb2 (Lr _))
  clear hK K;(try simp only[Act.put,Sa,Sz,Sc]);refine wpAnyH_take (i:=17) (oi:={dst:=some 5,op:=Op.assign (Operand.const (Value.int IntKind.i64 0)),type:=27,pos:= "fraction.go:173",after:=#[{on:=16,ground:=Ground.chain},{on:=0,ground:=Ground.phase},{on:=1,ground:=Ground.phase},{on:=2,ground:=Ground.phase},{on:=3,ground:=Ground.phase},{on:=4,ground:=Ground.phase},{on:=5,ground:=Ground.phase},{on:=6,ground:=Ground.phase},{on:=7,ground:=Ground.phase},{on:=8,ground:=Ground.phase},{on:=9,ground:=Ground.phase},{on:=10,ground:=Ground.phase},{on:=11,ground:=Ground.phase},{on:=12,ground:=Ground.phase},{on:=13,ground:=Ground.phase},{on:=14,ground:=Ground.phase},{on:=15,ground:=Ground.phase},{on:=16,ground:=Ground.phase}],guard:=none}) (v:=?v17) rfl (by kernel_rfl) (by kernel_rfl) (by kernel_rfl) (fun _ _ _ h=>h) (Or.inl ⟨by rfl,?hy17⟩) (by assumption) ?_
  case hy17=>(intro w hSw;(try dsimp only at hSw);go_simp;(try (with_reducible rfl)))
  (try simp only[Act.put,Sa,Sz,Sc]);refine wpAnyH_done (by kernel_rfl) ?_ _;have HVb:=HV.out.1.below hKb;go_wp2_with fail;exact FracPow_ret rfl rfl (HVb.store trivial trivial trivial) ⟨below_set3 (HV.out.2.trans (hKb.mono (by omega))) (Nat.le_succ _),.inr ⟨rfl,_,_,_,_,_,_,_,rfl,hid ⟨_,_,rfl,(hRa.below hBb).store3 HVb _ _ _,hRb.store3 HVb _ _ _⟩⟩⟩
 ·cases b
  all_goals
   go_region_held3 (fun w'=>w'.cell? ⟨w.heap.size,0,none⟩=some (.bool true)∧w'.cell? ⟨w.heap.size,1,none⟩=some (.slice p1 k1 c1)∧w'.cell? ⟨w.heap.size,2,none⟩=some (.slice p2 k2 c2)∧Hid (Below (w.heap.size+1) W0 w'))
    (first | exact HS.out _ (Br _ _).drew | (exact HS.out _ (by assumption)) | exact HS.out _ (below_set3 (by assumption) (Lr _)))
    (first
     | (go_at_call_of 149 k1;refine(HPn.out _ (HB0.out.trans ((held3' (N:=w.heap.size+1) (W0:=W0) (by assumption)).mono (by omega)))).mono ?_;rintro e wa ⟨v6,rfl,hRa,hBa⟩;have hKa:=held_any (by first | assumption | exact(Br _ _).drew) hBa;have hKa2:=below_pre hKa hn1;obtain⟨p6,k6,c6,rfl,hx6⟩:=id hRa;clear hx6)
     | (go_at_call_of 149 k2;refine(HPd.out _ (HB0.out.trans ((held3' (N:=w.heap.size+1) (W0:=W0) (by assumption)).mono (by omega)))).mono ?_;rintro e wb ⟨v7,rfl,hRb,hBb⟩;have hKb:=held_any (by first | assumption | exact(Br _ _).drew) hBb;have hKb2:=below_pre hKb hn1;obtain⟨p7,k7,c7,rfl,hx7⟩:=id hRb;clear hx7;obtain⟨x0,x1,x2,y0,y1,y2⟩:=(HV.out.1.below hKb).cells))
   rename_i hHeld
   clear hHeld
   have HVb:=HV.out.1.below hKb
   go_wp2_with fail
   exact FracPow_ret rfl rfl (HVb.store trivial trivial trivial) ⟨below_set3 (HV.out.2.trans (hKb.mono (by omega))) (Nat.le_succ _),.inr ⟨rfl,_,_,_,_,_,_,_,rfl,hid ⟨_,_,rfl,(hRa.below hBb).store3 HVb _ _ _,hRb.store3 HVb _ _ _⟩⟩⟩
theorem FRes.any{w:World}{e:Ending}{c}{t:Tq}(h:FRes w e c t):∃sg pa ka ca pb kb cb,e=.returned (.tuple #[.agg #[.bool sg,.slice pa ka ca,.slice pb kb cb],.int .i64 c])∧Hid (c=0→FNorm w (.agg #[.bool sg,.slice pa ka ca,.slice pb kb cb]) t):=by
 rcases h with ⟨h0,rfl⟩ | ⟨rfl,sg,pa,ka,ca,pb,kb,cb,rfl,hF⟩
 ·exact⟨false,none,0,0,none,0,0,rfl,hid fun h=>absurd h h0⟩
 ·exact⟨sg,pa,ka,ca,pb,kb,cb,rfl,hid fun _=>hF.out⟩
end Go.Proofs.YteblinkehldghaaGreatDoor
