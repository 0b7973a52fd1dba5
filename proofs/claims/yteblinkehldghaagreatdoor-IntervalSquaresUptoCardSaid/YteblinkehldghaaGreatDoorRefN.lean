/- The natural numbers of the specification: shifts by less than a digit. -/
import Derived.Test.YteblinkehldghaaGreatDoorRefK
import Derived.Deep.Upon
set_option maxHeartbeats 2000000
set_option maxRecDepth 100000
namespace Go.Proofs.YteblinkehldghaaGreatDoor
open Go.RowKit Dg
open And renaming intro→Ai
open Nat renaming le_refl→Lr
theorem Tryz.mk0(N:Nat)(hN:N≤2000000000)(w:World):(Instr.makeSlice 38 (.int .i64 0) (.int .i64 (N:Int))).run Tryz.prog w=.ok (.slice (some ⟨w.heap.size,0,none⟩) 0 N) (w.alloc (.cells (madeCells #[.int .u32 0] N) 65)):=by
 obtain⟨i,hi,hzz⟩:=Option.map_eq_some_iff.1 Tryz.infoU32;simp only[Prod.mk.injEq] at hzz;obtain⟨hz,hs,hb⟩:=hzz;have hr:=run_make (P:=Tryz.prog) w 38 65 i (.int .u32 0) Tryz.underlying38 hi hz .i64 .i64 0 N (by omega) (by omega) (by rw[hb];omega) (by omega);simpa[hs,Value.cells] using hr
theorem own_made(w:World)(base N:Nat)(hb:base≤w.heap.size)(hN:N≤2000000000)(f:Nat→Nat):Own (w.alloc (.cells (madeCells #[.int .u32 0] N) 65)) base (.slice (some ⟨w.heap.size,0,none⟩) 0 N) 0 f:=
 World.ownsRow_made w _ N hb (by unfold maxLen;omega) (by simp [madeCells])
theorem shl16_step{x k n c:Nat}(hc:c=(x % B16 ^ k)*2 ^ n / B16 ^ k):
  c < 2 ^ n∧dg B16 (x*2 ^ n) k=(dg B16 x k*2 ^ n+c) % 65536∧(x % B16 ^ (k+1))*2 ^ n / B16 ^ (k+1)=(dg B16 x k*2 ^ n+c) / 65536:=by
 have hP:0 < B16 ^ k:=Nat.pow_pos B16_pos;have h2:0 < 2 ^ n:=Nat.pow_pos (by omega)
 have e1:(x % B16 ^ (k+1))*2 ^ n=(x % B16 ^ k)*2 ^ n+B16 ^ k*(dg B16 x k*2 ^ n):=by
  rw[mod_succ,Nat.add_mul,Nat.mul_assoc]
 have e2:(x % B16 ^ (k+1))*2 ^ n / B16 ^ k=dg B16 x k*2 ^ n+c:=by
  rw[e1,Nat.add_mul_div_left _ _ hP,hc,Nat.add_comm]
 refine⟨?_,?_,?_⟩
 ·rw[hc];exact Nat.div_lt_of_lt_mul (Nat.mul_lt_mul_of_pos_right (Nat.mod_lt _ hP) h2)
 ·rw[←e2]
  have e3:x*2 ^ n=(x % B16 ^ (k+1))*2 ^ n+B16 ^ (k+1)*(x / B16 ^ (k+1)*2 ^ n):=by
   rw[←Nat.mul_assoc,←Nat.add_mul,Nat.mod_add_div]
  unfold dg;rw[show 65536=B16 from rfl]
  have hdiv:x*2 ^ n / B16 ^ k=(x % B16 ^ (k+1))*2 ^ n / B16 ^ k+B16*(x / B16 ^ (k+1)*2 ^ n):=by
   rw[e3,Nat.pow_succ,Nat.mul_assoc (B16 ^ k),Nat.add_mul_div_left _ _ hP]
  rw[hdiv,Nat.add_mul_mod_self_left]
 ·have e4:=Nat.div_div_eq_div_mul ((x % B16 ^ (k+1))*2 ^ n) (B16 ^ k) B16;rw[←Nat.pow_succ] at e4;rw[←e4,e2];rfl
theorem or_low16(g n c:Nat)(hc:c < 2 ^ n)(hg:g*2 ^ n < 4294967296)(hn:n < 16):bits .or .u32 ((g:Int)*2 ^ n) (c:Int)=((g*2 ^ n+c:Nat):Int):=by
 have hc2:c < 4294967296:=Nat.lt_of_lt_of_le hc (Nat.le_trans (Nat.pow_le_pow_right (by omega) (show n≤16 by omega)) (by decide));rw[show(g:Int)*2 ^ n=((g*2 ^ n:Nat):Int) by push_cast;rfl,u32_or_nat _ _ hg hc2,nat_join n _ _ (Nat.mul_mod_left _ _) hc]
theorem Tryz.app0(W:World)(g:Addr)(p c):(Builtin.append_ #[38,38] 38 #[.slice (some g) 0 0,.slice p 0 c]).run Tryz.prog W=.ok (.slice (some g) 0 0) W:=by
 obtain⟨i,hi,hz,hs,hb⟩:=info_parts Tryz.infoU32;refine run_append_nothing W 38 38 38 65 i Tryz.underlying38 hi (some g) 0 0 (Lr _) _ ?_
 cases p with
 | none=>exact Src.ofNil W Tryz.underlying38 c
 | some a=>exact Src.ofSlice W Tryz.underlying38 a 0 c [] (by simp) (fun j u h=>by simp at h) (fun u h=>by cases h)
theorem wp_append_run{P:Program}{w:World}{o:Oper}{a:Act}{K:Act→World→Prop}{Q:Exit→Act→World→Prop}(s x:Operand)(t:TypeId)
  (ho:o.op=.call {callee:=.builtin .append,args:=#[s,x],argTypes:=#[t,t]})(v u v':Value)(hs:a.eval s=v)(hx:a.eval x=u)
  (hr:(Builtin.append_ #[t,t] o.type #[v,u]).run P w=.ok v' w)(h:K (a.put o.dst v') w):o.wp P a w K Q:=by
 unfold Oper.wp execOp;simp only[ho,resolve,invoke,builtin,Sem.run_bind,Sem.run_pure,Result.andThen_ok,List.map_toArray,List.map_cons,List.map_nil,hs,hx,hr];exact h
theorem wpList_append_run{P:Program}{w:World}{ops:Array Oper}{rest:List Oper}{o:Oper}{a:Act}{Q:Exit→Act→World→Prop}(hgd:o.guard=none)(s x:Operand)(t:TypeId)
  (ho:o.op=.call {callee:=.builtin .append,args:=#[s,x],argTypes:=#[t,t]})(v u v':Value)(hs:a.eval s=v)(hx:a.eval x=u)
  (hr:(Builtin.append_ #[t,t] o.type #[v,u]).run P w=.ok v' w)(h:wpList P ops Q rest (a.put o.dst v') w):wpList P ops Q (o::rest) a w:=
 wpList_plain hgd fun _ hK=>wp_append_run s x t ho v u v' hs hx hr (hK _ _ h)
theorem Own.take{w:World}{base:Nat}{p n m cap}{f:Nat→Nat}(h:Own w base (.slice p n cap) n f)(hm:m≤n):Own w base (.slice p m cap) m f:=by
 obtain⟨_,h2⟩:=h;refine⟨by simp,?_⟩
 rcases h2 with ⟨hv,hn⟩ | ⟨g,cap',cur,hv,hb,hg,hn,hmx,hs,ht⟩
 ·subst hn
  obtain rfl:m=0:=by omega
  exact .inl ⟨hv,rfl⟩
 ·simp only[Value.slice.injEq] at hv;obtain⟨rfl,_,rfl⟩:=hv;refine .inr ⟨g,cap,cur,rfl,hb,hg,by omega,hmx,hs,?_⟩;rw[Nat.mul_one] at ht ⊢;have h3:=congrArg (List.take m) ht;rw[List.take_take,Nat.min_eq_left hm,←List.map_take,List.take_range,Nat.min_eq_left hm] at h3;exact h3
def ShlRel (w0:World) (x n n1:Nat) (v cv i:Value) (wr:World):Prop:=∃k c:Nat,i=.int .i64 k∧k≤n1∧cv=.int .u32 c∧c=(x % B16 ^ k)*2 ^ n / B16 ^ k∧Own wr w0.heap.size v k (dg B16 (x*2 ^ n))∧Bw w0 wr
theorem NatShl_own(va:Value)(x n:Nat)(w:World)(ha:Rep B16 w va x)(hx:x < B16 ^ 1000000000)(hn:n < 16):
  Calls Tryz.prog 126 #[va,.int .i64 n] w fun e w'=>∃v m,e=.returned v∧Len B16 (x*2 ^ n) m∧Own w' w.heap.size v m (dg B16 (x*2 ^ n))∧Bw w w':=by
 obtain⟨i0,hi,hz0,hz1,hz2⟩:=info_parts Tryz.infoU32;obtain⟨p1,k1,c1,rfl,hk1,hl1,hs1⟩:=ha;have hb1:=hl1.le B16_pos hx;have hz1':=hl1.zero_iff B16_pos;have HS:=hid (Ai hs1 (Ai hl1 hx));clear hx hs1 hl1
 by_cases h0:k1=0
 ·subst h0;have hx0:=hz1'.2 rfl;subst hx0;clear hz1';go_enter Tryz.func126,Tryz.ntmps126
  go_wp2_with (first
   | (at_builtin;refine wpList_append_run rfl _ _ _ rfl _ _ _ rfl rfl (Tryz.app0 _ _ p1 c1) ?_))
  go_ret
  refine⟨_,0,rfl,?_,?_,(Below.refl _ _).alloc (Lr _) _⟩
  ·rw[Nat.zero_mul];exact Len.zero
  ·simpa[Own] using own_empty w w.heap.size (Lr _)
 ·have hf:((k1:Int) == 0)=false:=by simpa using h0
  by_cases hn0:n=0
  ·subst hn0;rw[Nat.pow_zero,Nat.mul_one];obtain⟨b1,o1,rfl,hc1⟩:=HS.out.1 (by omega);have hal:=(Below.refl w.heap.size w).alloc (Lr _) (.cells #[] 65);have hnews:=hid (slc_news (HS.out.1.below hal));have hown:=hid (own_empty w w.heap.size (Lr _));clear hc1 hz1' h0;go_enter Tryz.func126,Tryz.ntmps126
   go_wp2_with (first
    | (at_builtin;refine wpList_append_own _ rfl _ _ 38 rfl w.heap.size 65 i0 (.int .u32 0) 1 4 Tryz.underlying38 hi hz0 hz1 hz2 rfl (by decide) _ _ _ rfl hown.out ⟨b1,o1,none⟩ k1 c1 ((List.range k1).map (fun j=>Value.int .u32 (dg B16 x j:Nat))) rfl (by simp) hnews.out (fun x hx=>by simp at hx;obtain⟨_,_,rfl⟩:=hx;rfl) (by unfold maxLen;omega) (by omega) (by rw[World.size_alloc];omega) ?_;intro v' w3 hown' hgrow3 hnil3))
   have hB3:Bw w w3:=hal.grown (show(w.alloc (.cells #[] 65)).grownBy w3 (Value.ownBlock (.slice (some ⟨w.heap.size,0,none⟩) 0 0)) from hgrow3) (by rw[World.size_alloc];omega) (fun q hq=>by simp only[Value.ownBlock,Option.some.injEq] at hq;omega)
   have hO3:Own w3 w.heap.size v' k1 (dg B16 x):=by simpa[Own] using hown'
   clear hown' hgrow3 hnil3 hnews hown hal;have HO3:=hid hO3;obtain⟨p3,c3,rfl,hkc,hsl3⟩:=hO3.slc;clear hO3 hsl3;go_wp2_with fail
   go_ret
   exact⟨_,k1,rfl,HS.out.2.1,HO3.out,hB3⟩
  ·have hn1:(decide ((n:Int)≤0))=false:=decide_eq_false (by omega)
   have hq1:(n:Int) / 16=0:=by omega
   have hq2:Int.tdiv (n:Int) 16=0:=by rw[Int.tdiv_eq_ediv_of_nonneg (by omega)];exact hq1
   have hmk:∀W:World,(Instr.makeSlice 38 (.int .i64 0) (.int .i64 ((k1:Int)+1))).run Tryz.prog W=.ok (.slice (some ⟨W.heap.size,0,none⟩) 0 (k1+1)) (W.alloc (.cells (madeCells #[.int .u32 0] (k1+1)) 65)):=Tryz.mk0 (k1+1) (by omega);go_enter Tryz.func126,Tryz.ntmps126;go_wp2_with fail;clear hmk
   have hr1:(n:Int) % 16=n:=by omega
   have hr2:Int.tmod (n:Int) 16=n:=by rw[Int.tmod_eq_emod_of_nonneg (by omega)];exact hr1
   go_loopw [5,6,31] (fun v cv i wr=>ShlRel w x n k1 v cv i wr) (fun _ _ i _=>k1 - (intOf i).toNat)
   case atStart=>exact⟨0,0,rfl,by omega,rfl,by simp [Nat.mod_one],own_made w _ (k1+1) (Lr _) (by omega) _,(Below.refl _ _).alloc (Lr _) _⟩
   case round=>
    obtain⟨k,c,rfl,hkk,rfl,hc,hown,hB⟩:=hrel
    by_cases hlt:k < k1
    ·have hsl:=HS.out.1.below hB;obtain⟨b0,o0,rfl,hc0⟩:=hsl (by omega);have hc1:=hc0 k hlt;obtain⟨q1,q2,q3⟩:=shl16_step hc;have HQ:=hid (Ai q2 q3);have hg:=dg_16 x k
     have hwn:IntKind.u64.wrap (n:Int)=n:=by simp [IntKind.wrap,IntKind.bits,IntKind.signed];omega
     clear q2 q3 hc0 hsl hc;generalize dg B16 x k=g at *;have hp2:2 ^ n≤2 ^ 15:=Nat.pow_le_pow_right (by omega) (by omega);have hgp:g*2 ^ n < 4294967296:=Nat.lt_of_le_of_lt (Nat.mul_le_mul (show g≤65535 by omega) hp2) (by decide);have hor:=or_low16 g n c q1 hgp hn
     have hmod:((g:Int)*2 ^ n) % 4294967296=(g:Int)*2 ^ n:=by
      rw[show(g:Int)*2 ^ n=((g*2 ^ n:Nat):Int) by push_cast;rfl];omega
     have hS:g*2 ^ n+c < 4294967296:=by
      have:=Nat.lt_of_lt_of_le q1 hp2;have hgp2:g*2 ^ n≤65535*2 ^ 15:=Nat.mul_le_mul (by omega) hp2;omega
     generalize hSS:g*2 ^ n+c=S at *;have hsize:=hB.size
     have hown1:=fun q hq=>(World.ownsRow.lt hown q hq).1
     have hal:=(show wr.ownsRow w.heap.size 65 1 u5 k ((List.range k).map (fun j=>Value.int .u32 (dg B16 (x*2 ^ n) j:Nat))) from hown).alloc (.cells #[.int .u32 ((S:Int) % 65536)] 65);have HA:=hid (Ai hal (Ai hB (Ai hown1 HQ.out)));clear hal hown hB hown1 hSS q1 hgp hp2
     go_wp2_with (first
      | (at_builtin;refine wpList_append_own _ rfl _ _ 38 rfl w.heap.size 65 i0 (.int .u32 0) 1 4 Tryz.underlying38 hi hz0 hz1 hz2 rfl (by decide) _ _ _ rfl HA.out.1 ⟨wr.heap.size,0,none⟩ 1 1 [.int .u32 ((S:Int) % 65536)] rfl rfl (cell_one_new _ _ _) (fun x hx=>by simp at hx;subst hx;rfl) (by unfold maxLen;omega) (by omega) (by simp;omega) ?_;intro v' w3 hown' hgrow3 hnil3))
     go_roundw
     case rel=>
      refine⟨k+1,S / 65536,by go_num,by omega,congrArg (Value.int .u32) (by omega),HA.out.2.2.2.2.symm,Own.push hown' (by rw[HA.out.2.2.2.1];omega),?_⟩;exact(HA.out.2.1.alloc hsize _).grown (show(wr.alloc _).grownBy w3 u5.ownBlock from hgrow3) (by rw[World.size_alloc];omega) HA.out.2.2.1
     case measure=>simp [intOf];omega
    ·have hk':k=k1:=by omega
     subst hk';have hx1:x < B16 ^ k:=HS.out.2.1.1
     have hc2:c=x*2 ^ n / B16 ^ k:=by rw[hc,Nat.mod_eq_of_lt hx1]
     have hy:x*2 ^ n < B16 ^ (k+1):=by
      rw[Nat.pow_succ];have h16:2 ^ n < B16:=Nat.lt_of_lt_of_le (Nat.pow_lt_pow_right (by omega) hn) (by decide);exact Nat.mul_lt_mul'' hx1 h16
     have hdc:dg B16 (x*2 ^ n) k=c:=by rw[dg_top hy,hc2]
     have hcl:c < 65536:=by rw[←hdc];exact dg_16 _ _
     have hsize:=hB.size
     have hown1:=fun q hq=>(World.ownsRow.lt hown q hq).1
     have hal:=(show wr.ownsRow w.heap.size 65 1 u5 k ((List.range k).map (fun j=>Value.int .u32 (dg B16 (x*2 ^ n) j:Nat))) from hown).alloc (.cells #[.int .u32 (c:Int)] 65);have HA:=hid (Ai hal (Ai hB (Ai hown1 (Ai hdc hy))));clear hal hown hB hown1 hdc hy hc hc2 hx1
     go_wp2_with (first
      | (at_builtin;refine wpList_append_own _ rfl _ _ 38 rfl w.heap.size 65 i0 (.int .u32 0) 1 4 Tryz.underlying38 hi hz0 hz1 hz2 rfl (by decide) _ _ _ rfl HA.out.1 ⟨wr.heap.size,0,none⟩ 1 1 [.int .u32 (c:Int)] rfl rfl (cell_one_new _ _ _) (fun x hx=>by simp at hx;subst hx;rfl) (by unfold maxLen;omega) (by omega) (by simp;omega) ?_;intro v' w3 hown' hgrow3 hnil3))
     have hB3:=(HA.out.2.1.alloc hsize _).grown (show(wr.alloc _).grownBy w3 u5.ownBlock from hgrow3) (by rw[World.size_alloc];omega) HA.out.2.2.1;have hO3:Own w3 w.heap.size v' (k+1) (dg B16 (x*2 ^ n)):=Own.push hown' (by rw[HA.out.2.2.2.1]);obtain⟨p3,c3,rfl,hkc,hsl3⟩:=hO3.slc;have htr:=hid (trim_any p3 (k+1) c3 (x*2 ^ n) w3 (by omega) hkc HA.out.2.2.2.2 hsl3);have HF:=hid (Ai hO3 hB3);clear hown' hgrow3 hnil3 hO3 hsl3 hB3 HA;go_wp2_with fail;refine htr.out.mono ?_;rintro e w' ⟨m,rfl,hm,hlen,rfl⟩;clear htr;go_wp2_with fail
     go_ret
     exact⟨_,m,rfl,hlen,HF.out.1.take hm,HF.out.2⟩
theorem NatShl_any(va:Value)(x n:Nat)(w:World)(ha:Rep B16 w va x)(hx:x < B16 ^ 1000000000)(hn:n < 16):
  Calls Tryz.prog 126 #[va,.int .i64 n] w fun e w'=>∃v,e=.returned v∧Rep B16 w' v (x*2 ^ n)∧Bw w w':=by
 refine(NatShl_own va x n w ha hx hn).mono ?_;rintro e w' ⟨v,m,he,hl,ho,hb⟩;obtain⟨p,cap,rfl,hc,hs⟩:=ho.slc;exact⟨_,he,⟨p,m,cap,rfl,hc,hl,hs⟩,hb⟩
theorem shr16_step{x k n:Nat}(hn:n < 16):dg B16 (x / 2 ^ n) k=((dg B16 x k+dg B16 x (k+1)*65536) / 2 ^ n) % 65536:=by
 have hW:B16=2 ^ n*2 ^ (16 - n):=by rw[←Nat.pow_add,show n+(16 - n)=16 by omega];rfl
 have e:dg B16 (x / 2 ^ n) k=(x / B16 ^ k) / 2 ^ n % B16:=by
  unfold dg;rw[Nat.div_div_eq_div_mul,Nat.div_div_eq_div_mul,Nat.mul_comm]
 rw[e,dg_shr hW];unfold dg;rw[Nat.div_div_eq_div_mul,←Nat.pow_succ,B16_val,Nat.mul_comm 65536]
theorem cast_shr16(S n:Nat):((S:Int) / 2 ^ n) % 65536=(((S / 2 ^ n) % 65536:Nat):Int):=by
 rw[show(2:Int) ^ n=((2 ^ n:Nat):Int) by push_cast;rfl,←Int.natCast_ediv];omega
def ShrRel (w0:World) (x n n1:Nat) (v i:Value) (wr:World):Prop:=∃k:Nat,i=.int .i64 k∧k≤n1∧Own wr w0.heap.size v k (dg B16 (x / 2 ^ n))∧Bw w0 wr
theorem NatShr_any(va:Value)(x n:Nat)(w:World)(ha:Rep B16 w va x)(hx:x < B16 ^ 1000000000)(hn:n < 16):
  Calls Tryz.prog 129 #[va,.int .i64 n] w fun e w'=>∃v,e=.returned v∧Rep B16 w' v (x / 2 ^ n)∧Bw w w':=by
 obtain⟨i0,hi,hz0,hz1,hz2⟩:=info_parts Tryz.infoU32;obtain⟨p1,k1,c1,rfl,hk1,hl1,hs1⟩:=ha;have hb1:=hl1.le B16_pos hx;have hz1':=hl1.zero_iff B16_pos;have HS:=hid (Ai hs1 (Ai hl1 hx))
 have hq1:(n:Int) / 16=0:=by omega
 have hq2:Int.tdiv (n:Int) 16=0:=by rw[Int.tdiv_eq_ediv_of_nonneg (by omega)];exact hq1
 have hn1:(decide ((n:Int) < 0))=false:=decide_eq_false (by omega);clear hx hs1 hl1
 by_cases h0:k1=0
 ·subst h0;have hx0:=hz1'.2 rfl;subst hx0;clear hz1';go_enter Tryz.func129,Tryz.ntmps129;go_wp2_with fail
  go_ret
  refine⟨_,rfl,?_,Below.refl _ _⟩;rw[Nat.zero_div];exact Rep.nil
 ·have hmk:∀W:World,(Instr.makeSlice 38 (.int .i64 0) (.int .i64 (k1:Int))).run Tryz.prog W=.ok (.slice (some ⟨W.heap.size,0,none⟩) 0 k1) (W.alloc (.cells (madeCells #[.int .u32 0] k1) 65)):=Tryz.mk0 k1 (by omega);have hle:(decide ((k1:Int)≤0))=false:=decide_eq_false (by omega);obtain⟨b0,o0,rfl,hc0⟩:=HS.out.1 (by omega);clear hc0;go_enter Tryz.func129,Tryz.ntmps129;go_wp2_with fail;clear hmk
  have hr1:(n:Int) % 16=n:=by omega
  have hr2:Int.tmod (n:Int) 16=n:=by rw[Int.tmod_eq_emod_of_nonneg (by omega)];exact hr1
  have hwn:IntKind.u64.wrap (n:Int)=n:=by simp [IntKind.wrap,IntKind.bits,IntKind.signed];omega
  go_loopw [5,26] (fun v i wr=>ShrRel w x n k1 v i wr) (fun _ i _=>k1 - (intOf i).toNat)
  case atStart=>exact⟨0,rfl,by omega,own_made w _ k1 (Lr _) (by omega) _,(Below.refl _ _).alloc (Lr _) _⟩
  case round=>
   obtain⟨k,rfl,hkk,hown,hB⟩:=hrel
   by_cases hlt:k < k1
   ·have hsl:=HS.out.1.below hB;obtain⟨b',o',hpx,hc0⟩:=hsl (by omega);simp only[Option.some.injEq,Addr.mk.injEq,and_true] at hpx;obtain⟨rfl,rfl⟩:=hpx;have hc1:=hc0 k hlt;have hg:=dg_16 x k
    by_cases hlt2:k+1 < k1
    ·have hc2:=hc0 (k+1) hlt2;have hg2:=dg_16 x (k+1);have HQ:=hid (shr16_step (x:=x) (k:=k) hn);clear hc0 hsl;generalize dg B16 x k=g at *;generalize dg B16 x (k+1)=g2 at *
     have hu1:IntKind.u32.wrap ((g2:Int)*65536)=(g2:Int)*65536:=by simp [IntKind.wrap,IntKind.bits,IntKind.signed];omega
     have hu2:IntKind.u32.wrap ((g:Int)+(g2:Int)*65536)=((g+g2*65536:Nat):Int):=by simp [IntKind.wrap,IntKind.bits,IntKind.signed];omega
     have hcs:(g:Int)+(g2:Int)*65536=((g+g2*65536:Nat):Int):=by omega
     have hS:g+g2*65536 < 4294967296:=by omega
     generalize g+g2*65536=S at *;have hsize:=hB.size
     have hown1:=fun q hq=>(World.ownsRow.lt hown q hq).1
     have hal:=(show wr.ownsRow w.heap.size 65 1 u5 k ((List.range k).map (fun j=>Value.int .u32 (dg B16 (x / 2 ^ n) j:Nat))) from hown).alloc (.cells #[.int .u32 ((S:Int) / 2 ^ n % 65536)] 65);have HA:=hid (Ai hal (Ai hB (Ai hown1 HQ)));clear hal hown hB hown1
     go_wp2_with (first
      | (at_builtin;refine wpList_append_own _ rfl _ _ 38 rfl w.heap.size 65 i0 (.int .u32 0) 1 4 Tryz.underlying38 hi hz0 hz1 hz2 rfl (by decide) _ _ _ rfl HA.out.1 ⟨wr.heap.size,0,none⟩ 1 1 [.int .u32 ((S:Int) / 2 ^ n % 65536)] rfl rfl (cell_one_new _ _ _) (fun x hx=>by simp at hx;subst hx;rfl) (by unfold maxLen;omega) (by omega) (by simp;omega) ?_;intro v' w3 hown' hgrow3 hnil3))
     go_roundw
     case rel=>
      refine⟨k+1,by go_num,by omega,Own.push hown' (by rw[cast_shr16,HA.out.2.2.2.out]),?_⟩;exact(HA.out.2.1.alloc hsize _).grown (show(wr.alloc _).grownBy w3 u5.ownBlock from hgrow3) (by rw[World.size_alloc];omega) HA.out.2.2.1
     case measure=>simp [intOf];omega
    ·have HQ:Hid (dg B16 (x / 2 ^ n) k=(dg B16 x k / 2 ^ n) % 65536):=by
      have h:=shr16_step (x:=x) (k:=k) hn;rw[dg_zero' B16_pos HS.out.2.1.1 (show k1≤k+1 by omega),Nat.zero_mul,Nat.add_zero] at h;exact h
     clear hc0 hsl;generalize dg B16 x k=S at *;have hsize:=hB.size
     have hown1:=fun q hq=>(World.ownsRow.lt hown q hq).1
     have hal:=(show wr.ownsRow w.heap.size 65 1 u5 k ((List.range k).map (fun j=>Value.int .u32 (dg B16 (x / 2 ^ n) j:Nat))) from hown).alloc (.cells #[.int .u32 ((S:Int) / 2 ^ n % 65536)] 65);have HA:=hid (Ai hal (Ai hB (Ai hown1 HQ)));clear hal hown hB hown1
     go_wp2_with (first
      | (at_builtin;refine wpList_append_own _ rfl _ _ 38 rfl w.heap.size 65 i0 (.int .u32 0) 1 4 Tryz.underlying38 hi hz0 hz1 hz2 rfl (by decide) _ _ _ rfl HA.out.1 ⟨wr.heap.size,0,none⟩ 1 1 [.int .u32 ((S:Int) / 2 ^ n % 65536)] rfl rfl (cell_one_new _ _ _) (fun x hx=>by simp at hx;subst hx;rfl) (by unfold maxLen;omega) (by omega) (by simp;omega) ?_;intro v' w3 hown' hgrow3 hnil3))
     go_roundw
     case rel=>
      refine⟨k+1,by go_num,by omega,Own.push hown' (by rw[cast_shr16,HA.out.2.2.2.out]),?_⟩;exact(HA.out.2.1.alloc hsize _).grown (show(wr.alloc _).grownBy w3 u5.ownBlock from hgrow3) (by rw[World.size_alloc];omega) HA.out.2.2.1
     case measure=>simp [intOf];omega
   ·have hk':k=k1:=by omega
    subst hk';have hy:x / 2 ^ n < B16 ^ k:=div_lt_pow16 HS.out.2.1.1;obtain⟨p3,c3,rfl,hkc,hsl3⟩:=hown.slc;have htr:=hid (trim_any p3 k c3 (x / 2 ^ n) wr (by omega) hkc hy hsl3);have HF:=hid (Ai hsl3 hB);clear hown hsl3 hB hy;go_wp2_with fail;refine htr.out.mono ?_;rintro e w' ⟨m,rfl,hm,hlen,rfl⟩;clear htr;go_wp2_with fail
    go_ret
    exact⟨_,rfl,⟨_,_,_,rfl,by omega,hlen,HF.out.1.take hm⟩,HF.out.2⟩
structure But (b:Nat) (w w':World):Prop where
 os:w'.os=w.os
 tape:w'.tape=w.tape
 output:w'.output=w.output
 size:w.heap.size≤w'.heap.size
 block:∀k,k < w.heap.size→k≠b→w'.heap[k]?=w.heap[k]?
theorem But.refl(b:Nat)(w:World):But b w w:=⟨rfl,rfl,rfl,Lr _,fun _ _ _=>rfl⟩
theorem But.trans{b:Nat}{a c d:World}(h:But b a c)(k:But b c d):But b a d:=
 ⟨k.os.trans h.os,k.tape.trans h.tape,k.output.trans h.output,Nat.le_trans h.size k.size,fun i hi hb=>(k.block i (Nat.lt_of_lt_of_le hi h.size) hb).trans (h.block i hi hb)⟩
theorem But.of_below{b:Nat}{w w':World}(h:Bw w w'):But b w w':=⟨h.os,h.tape,h.output,h.size,fun k hk _=>h.block k hk⟩
theorem But.setCell{b:Nat}{a w:World}(h:But b a w)(o:Nat)(v:Value):But b a (w.setCell ⟨b,o,none⟩ v):=
 h.trans ⟨rfl,rfl,rfl,by simp [World.setCell],fun k _ hk=>Below.heap_setCell _ _ _ _ (by exact hk)⟩
theorem But.cell{b:Nat}{w w':World}(h:But b w w'){p:Addr}(hp:p.block≠b)(hl:p.block < w.heap.size):w'.cell? p=w.cell? p:=World.cell?_of_block (w:=w) (h.block p.block hl hp)
theorem But.slc{b:Nat}{w w':World}(h:But b w w'){b1 o1 n:Nat}{f:Nat→Nat}(hne:b1≠b)(hs:Slc w (some ⟨b1,o1,none⟩) n f):Slc w' (some ⟨b1,o1,none⟩) n f:=fun h0=>by
 obtain⟨b',o',hp,hc⟩:=hs h0;simp only[Option.some.injEq,Addr.mk.injEq,and_true] at hp;obtain⟨rfl,rfl⟩:=hp;exact⟨b1,o1,rfl,fun j hj=>by rw[h.cell (p:=⟨b1,o1+j,none⟩) hne (World.block_lt_of_cell? _ _ (hc j hj))];exact hc j hj⟩
def URow (w:World) (b L D:Nat):Prop:=∃cur,w.heap[b]?=some (.cells cur 65 (0,0))∧∀j,j < L→cur[j]?=some (.int .u32 (dg B16 D j:Nat))
theorem URow.cell{w:World}{b L D j:Nat}(h:URow w b L D)(hj:j < L):w.cell? ⟨b,j,none⟩=some (.int .u32 (dg B16 D j:Nat)):=by
 obtain⟨cur,h0,h1⟩:=h;have h2:=h1 j hj;simp [World.cell?,h0,h2]
theorem URow.frozen{w:World}{b L D:Nat}(h:URow w b L D)(j:Nat):w.frozen? ⟨b,j,none⟩=false:=by
 obtain⟨cur,h0,_⟩:=h;simp [World.frozen?,h0]
theorem URow.below{w w':World}{b L D:Nat}(h:URow w b L D)(hb:Bw w w'):URow w' b L D:=by
 obtain⟨cur,h0,h1⟩:=h;exact⟨cur,by rw[hb.block _ (Array.getElem?_eq_some_iff.1 h0).1];exact h0,h1⟩
theorem URow.lt{w:World}{b L D:Nat}(h:URow w b L D):b < w.heap.size:=by
 obtain⟨cur,h0,h1⟩:=h;exact(Array.getElem?_eq_some_iff.1 h0).1
theorem URow.set{w:World}{b L D k s:Nat}(h:URow w b L D)(hk:k < L)(hs:s < B16):URow (w.setCell ⟨b,k,none⟩ (.int .u32 (s:Nat))) b L (setd B16 D k s):=by
 obtain⟨cur,h0,h1⟩:=h;refine⟨_,heap_setCell_same w b k _ _ _ h0,fun j hj=>?_⟩;rw[dg_setd B16_pos hs];have h2:=h1 j hj;have hjl:=(Array.getElem?_eq_some_iff.1 h2).1
 by_cases hjk:j=k
 ·subst hjk;rw[if_pos rfl];simp [hjl]
 ·rw[if_neg hjk,←h2];simp [Ne.symm hjk]
theorem URow.slc{w:World}{b L D i n:Nat}(h:URow w b L D)(hn:i+n≤L):Slc w (some ⟨b,i,none⟩) n (dg B16 (D / B16 ^ i)):=fun _=>
 ⟨b,i,rfl,fun j hj=>by rw[h.cell (by omega),dg_div_pow]⟩
def mixe (D i j X P:Nat):Nat:=D % B16 ^ i+B16 ^ i*(X+B16 ^ j*(P / B16 ^ j))
theorem dg_mixe{D i j X P:Nat}(hX:X < B16 ^ j):dg B16 (mixe D i j X P) (i+j)=dg B16 P j:=by
 unfold mixe;have h1:D % B16 ^ i < B16 ^ i:=Nat.mod_lt _ (Nat.pow_pos B16_pos);unfold dg;rw[Nat.pow_add,←Nat.div_div_eq_div_mul,Nat.add_mul_div_left _ _ (Nat.pow_pos B16_pos),Nat.div_eq_of_lt h1,Nat.zero_add,Nat.add_mul_div_left _ _ (Nat.pow_pos B16_pos),Nat.div_eq_of_lt hX,Nat.zero_add]
theorem mixe_set{D i j X P s:Nat}(hX:X < B16 ^ j):setd B16 (mixe D i j X P) (i+j) s=mixe D i (j+1) (X+B16 ^ j*s) P:=by
 have h:=setd_val B16 (mixe D i j X P) (i+j) s;rw[dg_mixe hX] at h;generalize setd B16 (mixe D i j X P) (i+j) s=S at *
 have e:mixe D i j X P=D % B16 ^ i+B16 ^ i*(X+B16 ^ j*(dg B16 P j+B16*(P / B16 ^ (j+1)))):=by unfold mixe;rw[←div_succ]
 rw[e] at h;unfold mixe at *
 have e1:B16 ^ (i+j)*dg B16 P j=B16 ^ i*(B16 ^ j*dg B16 P j):=by rw[Nat.pow_add,Nat.mul_assoc]
 have e2:B16 ^ (i+j)*s=B16 ^ i*(B16 ^ j*s):=by rw[Nat.pow_add,Nat.mul_assoc]
 have e3:B16 ^ (j+1)*(P / B16 ^ (j+1))=B16 ^ j*(B16*(P / B16 ^ (j+1))):=by rw[Nat.pow_succ,Nat.mul_assoc]
 rw[e1,e2] at h;rw[e3];simp only[Nat.mul_add] at h ⊢;omega
theorem mixe_start(D i:Nat):mixe D i 0 0 (D / B16 ^ i)=D:=by
 unfold mixe;simp only[Nat.pow_zero,Nat.div_one,Nat.zero_add,Nat.one_mul];exact Nat.mod_add_div D (B16 ^ i)
theorem mixe_end{D i m X:Nat}(hP:D / B16 ^ i < B16 ^ m):mixe D i m X (D / B16 ^ i)=D % B16 ^ i+B16 ^ i*X:=by
 unfold mixe;rw[Nat.div_eq_of_lt hP,Nat.mul_zero,Nat.add_zero]
theorem lt_16'{x a:Nat}(h:x < B16 ^ a)(hab:a≤900000000):x < B16 ^ 900000000:=by
 generalize 900000000=b at *;exact Nat.lt_of_lt_of_le h (Nat.pow_le_pow_right B16_pos hab)
/-! ### less -/
theorem less_any(b i m cap U:Nat)(vv:Value)(V g:Nat)(w:World)(hm:m≤1000000000)(hcap:m≤cap)(hU:U < B16 ^ m)(hs:Slc w (some ⟨b,i,none⟩) m (dg B16 U))(hv:Rep B16 w vv V)(hV:V < B16 ^ 900000000)(hg:g < 65536):
  Calls Tryz.prog 154 #[.slice (some ⟨b,i,none⟩) m cap,vv,.int .u64 g] w fun e w'=>e=.returned (.bool (decide (U < V*g)))∧Bw w w':=by
 have HN:=hid (NatOf_any g w (by omega));have hVb:V < B16 ^ 1000000000:=lt_16 hV (by omega)
 have hgb:g < B16 ^ 1:=by rw[Nat.pow_one];exact hg
 have hVg:V*g < B16 ^ 1000000000:=by
  have h:=mul_lt16 hV hgb;exact lt_16 h (by omega)
 have hUb:U < B16 ^ 1000000000:=lt_16 hU hm;have HM:=hid (fun (W:World) (v1:Value) (hB:Bw w W) (hR:Rep B16 W v1 g)=>NatMul_any vv v1 V g W (hv.below hB) hR hVb (lt_16 hgb (by omega)));have HT:=hid (fun (W:World) (hB:Bw w W)=>trim_any (some ⟨b,i,none⟩) m cap U W (by omega) hcap hU (hs.below hB));have HC:=hid (fun (W:World) (v1 v2:Value) h1 h2=>NatCmp_any v1 v2 U (V*g) W h1 h2 hUb hVg);have HS:=hid hs
 have hdec:decide (cmp3 U (V*g) < 0)=decide (U < V*g):=by
  unfold cmp3
  by_cases h:U < V*g
  ·simp [h]
  ·rw[if_neg h,decide_eq_false h];split<;>rfl
 obtain⟨r,hr⟩:∃r,r=cmp3 U (V*g):=⟨_,rfl⟩;obtain⟨d,hd⟩:∃d,d=decide (U < V*g):=⟨_,rfl⟩;rw[←hd,←hr] at hdec;rw[←hr] at HC;rw[←hd];clear hr hd hVb hgb hVg hUb hU hs hv hV;obtain⟨Q,hQ⟩:∃Q,Q=V*g:=⟨_,rfl⟩;rw[←hQ] at HM HC;clear hQ;go_enter Tryz.func154,Tryz.ntmps154;go_wp2_with fail;refine HN.out.mono ?_;rintro e w1 ⟨v1,rfl,hR1,hB1⟩;go_wp2_with fail;refine(HM.out w1 v1 hB1 hR1).mono ?_;rintro e w2 ⟨v2,rfl,hR2,hB2⟩;have hB12:=held_any hB1 hB2;go_wp2_with fail;refine(HT.out w2 hB12).mono ?_;rintro e w3 ⟨m',rfl,hm',hlen,rfl⟩;go_wp2_with fail;refine(HC.out w2 _ _ ⟨_,_,_,rfl,Nat.le_trans hm' hcap,hlen,(HS.out.below hB12).take hm'⟩ hR2).mono ?_;rintro e w4 ⟨rfl,q,rfl⟩;have HB:=hid (below_drewN hB12 q);clear hR1 hB1 hR2 hB2 hB12 hm' hlen HN HM HT HC HS;go_wp2_with fail
 go_ret
 exact⟨rfl,HB.out⟩
end Go.Proofs.YteblinkehldghaaGreatDoor
