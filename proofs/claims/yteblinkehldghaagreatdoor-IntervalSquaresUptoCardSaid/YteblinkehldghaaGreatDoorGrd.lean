/- Grids: what Down and Up of a fraction are, and that both ways to say it agree. -/
import Derived.Test.YteblinkehldghaaGreatDoorRefY
set_option maxHeartbeats 8000000
set_option maxRecDepth 100000
namespace Go.Proofs.YteblinkehldghaaGreatDoor
open Go.RowKit Dg
open And renaming intro→Ai
open Nat renaming le_refl→Lr
open Below renaming refl→Br
def gdn (t:Tq) (p:Nat):Tq:=frac t.1 (botn (t.1,t.2.1*2 ^ p,t.2.2)) (2 ^ p)
def gup (t:Tq) (p:Nat):Tq:=fneg (gdn (fneg t) p)
def sup (t:Tq) (p:Nat):Tq:=frac t.1 (t.2.1*2 ^ p) t.2.2
def sdn (t:Tq) (p:Nat):Tq:=frac t.1 t.2.1 (t.2.2*2 ^ p)
theorem frac_sgn{s:Bool}{n d:Nat}:frac (s && decide (n≠0)) n d=frac s n d:=by
 unfold frac
 cases s<;>simp
theorem frac_sgn0{s s':Bool}{n d:Nat}(h:n≠0→s=s'):frac s n d=frac s' n d:=by
 unfold frac
 by_cases h0:n=0
 ·simp [h0]
 ·rw[h h0]
theorem fracOne(s:Bool)(n:Nat):frac s n 1=(s && decide (n≠0),n,1):=by
 unfold frac;simp
theorem botn_zero{s:Bool}{d:Nat}:botn (s,0,d)=0:=by simp [botn]
theorem botn_le(t:Tq):botn t≤t.2.1+1:=by
 have:=Nat.div_le_self t.2.1 t.2.2;unfold botn
 split<;>omega
theorem botn_frac{s:Bool}{n d:Nat}(hd:0 < d):botn (frac s n d)=botn (s,n,d):=by
 have hg:0 < Nat.gcd n d:=Nat.gcd_pos_of_pos_right _ hd;have e1:=Nat.mul_div_cancel' (Nat.gcd_dvd_left n d);have e2:=Nat.mul_div_cancel' (Nat.gcd_dvd_right n d)
 have h1:n / Nat.gcd n d / (d / Nat.gcd n d)=n / d:=by
  rw[Nat.div_div_eq_div_mul,e2]
 have h2:(n / Nat.gcd n d) % (d / Nat.gcd n d)=0↔n % d=0:=by
  have e3:n % d=Nat.gcd n d*((n / Nat.gcd n d) % (d / Nat.gcd n d)):=by
   rw[←Nat.mul_mod_mul_left,e1,e2]
  rw[e3,Nat.mul_eq_zero];constructor
  ·exact fun h=>.inr h
  ·rintro(h | h)
   ·omega
   ·exact h
 show(if (s && decide (n≠0))=true∧(n / Nat.gcd n d) % (d / Nat.gcd n d)≠0 then n / Nat.gcd n d / (d / Nat.gcd n d)+1 else n / Nat.gcd n d / (d / Nat.gcd n d))=if s=true∧n % d≠0 then n / d+1 else n / d
 rw[h1]
 by_cases hs:s=true∧n % d≠0
 ·have hn:n≠0:=fun h=>hs.2 (by rw[h,Nat.zero_mod])
  rw[if_pos hs,if_pos ⟨by rw[hs.1];simpa using hn,fun h=>hs.2 (h2.1 h)⟩]
 ·rw[if_neg hs,if_neg fun h=>hs ⟨by have:=h.1;rw[Bool.and_eq_true] at this;exact this.1,fun h3=>h.2 (h2.2 h3)⟩]
theorem gdn_eq{t:Tq}(hd:0 < t.2.2)(p:Nat):gdn t p=sdn (fbot (sup t p)) p:=by
 have hb:botn (sup t p)=botn (t.1,t.2.1*2 ^ p,t.2.2):=botn_frac hd;unfold sdn fbot;rw[hb,fracOne];show frac t.1 (botn (t.1,t.2.1*2 ^ p,t.2.2)) (2 ^ p)=frac ((t.1 && decide (t.2.1*2 ^ p≠0)) && decide (botn (t.1,t.2.1*2 ^ p,t.2.2)≠0)) (botn (t.1,t.2.1*2 ^ p,t.2.2)) (1*2 ^ p);rw[frac_sgn,Nat.one_mul]
 refine frac_sgn0 fun hb0=>?_
 have h0:t.2.1*2 ^ p≠0:=fun h=>hb0 (by rw[h];exact botn_zero)
 simp [h0]
theorem sup_neg{t:Tq}(hd:0 < t.2.2)(p:Nat):sup (fneg t) p=fneg (sup t p):=by
 unfold sup;rw[fneg_frac hd];show frac (!t.1 && decide (t.2.1≠0)) (t.2.1*2 ^ p) t.2.2=_
 refine frac_sgn0 fun h=>?_
 have h0:t.2.1≠0:=fun h2=>h (by rw[h2,Nat.zero_mul])
 simp [h0]
theorem sdn_neg{t:Tq}(hd:0 < t.2.2)(p:Nat):sdn (fneg t) p=fneg (sdn t p):=by
 unfold sdn;rw[fneg_frac (Nat.mul_pos hd (Nat.pow_pos (by decide)))];show frac (!t.1 && decide (t.2.1≠0)) t.2.1 (t.2.2*2 ^ p)=_;exact frac_sgn
theorem gup_eq{t:Tq}(hd:0 < t.2.2)(p:Nat):gup t p=sdn (ftop (sup t p)) p:=by
 have h1:gdn (fneg t) p=sdn (fbot (fneg (sup t p))) p:=by rw[gdn_eq (t:=fneg t) hd,sup_neg hd]
 unfold gup ftop;rw[h1,←sdn_neg];show 0 < (fbot (fneg (sup t p))).2.2;unfold fbot;rw[fracOne];exact Nat.one_pos
theorem gdn_fr{t:Tq}(p:Nat):IsFr (gdn t p):=⟨_,_,_,Nat.pow_pos (by decide),rfl⟩
theorem gup_fr{t:Tq}(p:Nat):IsFr (gup t p):=by
 refine⟨!(fneg t).1,botn ((fneg t).1,(fneg t).2.1*2 ^ p,(fneg t).2.2),2 ^ p,Nat.pow_pos (by decide),?_⟩;unfold gup gdn;exact fneg_frac (Nat.pow_pos (by decide))
theorem two_Wk{p k:Nat}(hp:p < 32*k):2 ^ p < W32 ^ k:=by
 have h:(2:Nat) ^ p < 2 ^ (32*k):=Nat.pow_lt_pow_right (by decide) hp
 rwa [Nat.pow_mul] at h
theorem two_W{p:Nat}(hp:p≤1000000):2 ^ p < W32 ^ 31251:=by
 generalize hk:31251=k;exact two_Wk (by omega)
theorem shg_W{x A p:Nat}(hx:x < W32 ^ A)(hp:p≤1000000):x*2 ^ p < W32 ^ (A+31251):=by
 rw[Nat.pow_add];exact Nat.mul_lt_mul'' hx (two_W hp)
theorem lt_1m{x a:Nat}(h:x < W32 ^ a)(ha:a≤1000000):x < W32 ^ 1000000:=by
 generalize 1000000=b at *;exact lt_pow h ha
theorem succ_W{q A:Nat}(hq:q < W32 ^ A):q+1 < W32 ^ (A+1):=by
 rw[Nat.pow_succ];have:W32 ^ A*2≤W32 ^ A*W32:=Nat.mul_le_mul_left _ (by decide);have h0:0 < W32 ^ A:=Nat.pow_pos W32_pos;omega
theorem onGrid_ret{W:World}{B:Nat}{x y z:Value}{tm:Array Value}{R:Ending→World→Prop}(h2:tm[6]?.getD undef=.pointer (some ⟨B,0,none⟩))(hV:Var3 W B x y z)(hR:R (.returned (.agg #[x,y,z])) W):
  bodyPost Tryz.prog Tryz.f152 R .ret {tmps:=tm,defers:=[]} W:=by
 obtain⟨c0,c1,c2,_,_,_⟩:=hV.cells;exact bodyPost_ret (v:=.agg #[x,y,z]) (by simp [results,Tryz.results152,go_sem,h2,c0,c1,c2]) rfl hR
theorem onGrid_any(s)(vn:Value)(n p:Nat)(w:World)(h:Rep W32 w vn n)(hn:n < W32 ^ 1000000)(hp:p≤1000000)(ht:TabOk w):
  Calls Tryz.prog 152 #[.bool s,vn,.int .i64 (p:Int)] w fun e w'=>∃v',e=.returned v'∧FNorm w' v' (frac s n (2 ^ p))∧Bw w w':=by
 have HR:=hid (Ai h ht);have HOf:=hid (fun (W:World)=>FromUint_any 1 W (by decide));have HSh:=hid (fun (W:World) (v1:Value) (h1:Rep W32 W v1 1)=>(show Calls Tryz.prog 150 #[v1,.int .i64 (p:Int)] W fun e w'=>∃v,e=.returned v∧Rep W32 w' v (2 ^ p)∧Bw W w' by have:=Shl_any v1 1 p W h1 (lt_big (a:=1) (by decide) (by omega)) (by omega);rwa [Nat.one_mul] at this));have HNw:=hid (fun (W:World) (v1 v2:Value) (h1:Rep W32 W v1 n) (h2:Rep W32 W v2 (2 ^ p)) (h3:TabOk W)=>fopen (t:=frac s n (2 ^ p)) (New_any s v1 v2 n (2 ^ p) W h1 h2 (lt_20 hn (by omega)) (lt_20 (two_W hp) (by omega)) (Nat.pow_pos (by decide)) h3));clear hn hp ht;obtain⟨p1,k1,c1,rfl,_⟩:=h;obtain⟨r,hr⟩:∃r,r=frac s n (2 ^ p):=⟨_,rfl⟩;rw[←hr] at HNw ⊢;clear hr;go_enter Tryz.func152,Tryz.ntmps152;go_upto_region 1 with fail;have hK:=(Br w.heap.size w).alloc (Lr _) (.cells #[.bool false,.slice none 0 0,.slice none 0 0] 48);have hV:=Var3.alloc w (x:=.bool false) (y:=.slice none 0 0) (z:=.slice none 0 0) 48 trivial trivial trivial;generalize w.alloc (.cells #[.bool false,.slice none 0 0,.slice none 0 0] 48)=W0 at *;have HV:=hid (Ai hV hK);clear hV hK;go_wp2_with fail;refine(HOf.out W0).mono ?_;rintro e w1 ⟨v1,rfl,hR1,hB1⟩;go_wp2_with fail;refine(HSh.out _ _ hR1).mono ?_;rintro e w2 ⟨v2,rfl,hR2,hB2⟩;have hst:=held_any hB1 hB2;clear hB1 hB2 hR1;have hK2:=HV.out.2.trans (hst.mono HV.out.2.size);go_wp2_with fail;refine(HNw.out _ _ _ (HR.out.1.below hK2) hR2 (HR.out.2.below hK2)).mono ?_;rintro e w3 ⟨sg,pa,ka,ca,pb,kb,cb,rfl,HF,hB3⟩;have hst3:=held_any hst hB3;have HV3:=hid (Ai (HV.out.1.below hst3) (HV.out.2.trans (hst3.mono HV.out.2.size)));clear hst hB3 hst3 hK2 hR2;obtain⟨x0,x1,x2,y0,y1,y2⟩:=HV3.out.1.cells;go_wp2_with fail;exact onGrid_ret rfl (HV3.out.1.store trivial trivial trivial) ⟨_,rfl,HF.out.store3 HV3.out.1 _ _ _,below_set3 HV3.out.2 (Lr _)⟩
theorem FracDown_ret{W:World}{B:Nat}{x y z:Value}{tm:Array Value}{R:Ending→World→Prop}(h2:tm[4]?.getD undef=.pointer (some ⟨B,0,none⟩))(hV:Var3 W B x y z)(hR:R (.returned (.agg #[x,y,z])) W):
  bodyPost Tryz.prog Tryz.f119 R .ret {tmps:=tm,defers:=[]} W:=by
 obtain⟨c0,c1,c2,_,_,_⟩:=hV.cells;exact bodyPost_ret (v:=.agg #[x,y,z]) (by simp [results,Tryz.results119,go_sem,h2,c0,c1,c2]) rfl hR
theorem FracDown_any(v:Value)(t:Tq)(p:Nat)(w:World)(h:FNorm w v t)(hn:t.2.1 < W32 ^ 100000)(hd:t.2.2 < W32 ^ 100000)(h0:0 < t.2.2)(hp:p≤1000000)(ht:TabOk w):
  Calls Tryz.prog 119 #[v,.int .i64 (p:Int)] w fun e w'=>∃v',e=.returned v'∧FNorm w' v' (gdn t p)∧Bw w w':=by
 obtain⟨vn1,vd1,rfl,hrn,hrd⟩:=h;have hX:=shg_W hn hp;have HSh:=hid (fun (W:World) (hW:Bw w W)=>Shl_any vn1 t.2.1 p W (hrn.below hW) (lt_big hn (by omega)) (by omega));have HDv:=hid (fun (W:World) (v1:Value) (h1:Rep W32 W v1 (t.2.1*2 ^ p)) (hW:Bw w W)=>Div_any v1 vd1 (t.2.1*2 ^ p) t.2.2 W h1 (hrd.below hW) (lt_9 hX (by omega)) (lt_9 hd (by omega)) h0 (ht.below hW));have hq:t.2.1*2 ^ p / t.2.2 < W32 ^ (100000+31251):=Nat.lt_of_le_of_lt (Nat.div_le_self _ _) hX;have HOf:=hid (fun (W:World)=>FromUint_any 1 W (by decide));have HAd:=hid (fun (W:World) (v1 v2:Value) (h1:Rep W32 W v1 (t.2.1*2 ^ p / t.2.2)) (h2:Rep W32 W v2 1)=>Add_any v1 v2 (t.2.1*2 ^ p / t.2.2) 1 W h1 h2 (lt_big hq (by omega)) (lt_big (a:=1) (by decide) (by omega)));have HOn:=hid (fun (m:Nat) (hm:m≤t.2.1*2 ^ p / t.2.2+1) (W:World) (v1:Value) (h1:Rep W32 W v1 m) (hT:TabOk W)=>fopen (t:=frac t.1 m (2 ^ p)) (onGrid_any t.1 v1 m p W h1 (Nat.lt_of_le_of_lt hm (lt_1m (succ_W hq) (by omega))) hp hT))
 have hbn:botn (t.1,t.2.1*2 ^ p,t.2.2)=if t.1=true∧t.2.1*2 ^ p % t.2.2≠0 then t.2.1*2 ^ p / t.2.2+1 else t.2.1*2 ^ p / t.2.2:=rfl
 show Calls _ _ _ _ fun e w'=>∃v',e=.returned v'∧FNorm w' v' (frac t.1 (botn (t.1,t.2.1*2 ^ p,t.2.2)) (2 ^ p))∧Bw w w'
 obtain⟨b,hb⟩:∃b,b=botn (t.1,t.2.1*2 ^ p,t.2.2):=⟨_,rfl⟩;rw[←hb] at hbn ⊢;clear hb hX hq hn hd h0 hp;obtain⟨X,hX⟩:∃b,b=t.2.1*2 ^ p:=⟨_,rfl⟩;rw[←hX] at HSh HDv HAd HOn hbn;obtain⟨r,hr⟩:∃r,r=X % t.2.2:=⟨_,rfl⟩;obtain⟨q,hqq⟩:∃r,r=X / t.2.2:=⟨_,rfl⟩;rw[←hr,←hqq] at HDv hbn;rw[←hqq] at HAd HOn;clear hr hqq hX;have HT:=hid ht;clear ht;obtain⟨p1,k1,c1,rfl,_⟩:=hrn;obtain⟨p2,k2,c2,rfl,_⟩:=hrd;obtain⟨s1,hs1⟩:∃s,s=t.1:=⟨_,rfl⟩;rw[←hs1] at HOn hbn ⊢;clear hs1;have HBN:=hid hbn;clear hbn;have hal:=below_alloc2 w (.cells #[.bool s1,.slice p1 k1 c1,.slice p2 k2 c2] 48) (.cells #[.bool false,.slice none 0 0,.slice none 0 0] 48);have hV:=(Var3.alloc w (x:=.bool s1) (y:=.slice p1 k1 c1) (z:=.slice p2 k2 c2) 48 trivial trivial trivial).below ((Br _ _).alloc (Lr _) (.cells #[.bool false,.slice none 0 0,.slice none 0 0] 48));have hV2:=Var3.alloc2 w (.cells #[.bool s1,.slice p1 k1 c1,.slice p2 k2 c2] 48) (x:=.bool false) (y:=.slice none 0 0) (z:=.slice none 0 0) 48 trivial trivial trivial;go_enter Tryz.func119,Tryz.ntmps119;go_upto_region 1 with fail;generalize(w.alloc (.cells #[.bool s1,.slice p1 k1 c1,.slice p2 k2 c2] 48)).alloc (.cells #[.bool false,.slice none 0 0,.slice none 0 0] 48)=W0 at *;have HB:=hid hal;have HV:=hid (Ai hV hV2)
 have HS:Hid (∀w',Bw W0 w'→(w'.cell? ⟨w.heap.size,0,none⟩=some (.bool s1)∧w'.cell? ⟨w.heap.size,1,none⟩=some (.slice p1 k1 c1)∧w'.cell? ⟨w.heap.size,2,none⟩=some (.slice p2 k2 c2)∧Hid (Bw W0 w'))):=hid fun w' hb=>⟨(HV.out.1.below hb).cells.1,(HV.out.1.below hb).cells.2.1,(HV.out.1.below hb).cells.2.2.1,hid hb⟩
 clear hal hV hV2
 go_region_held3 (fun w'=>w'.cell? ⟨w.heap.size,0,none⟩=some (.bool s1)∧w'.cell? ⟨w.heap.size,1,none⟩=some (.slice p1 k1 c1)∧w'.cell? ⟨w.heap.size,2,none⟩=some (.slice p2 k2 c2)∧Hid (Bw W0 w'))
  (first | exact HS.out _ (Br _ _).drew | (exact HS.out _ (by assumption)))
  (first
   | (go_at_call 150;refine(HSh.out _ (HB.out.trans ((held3' (N:=W0.heap.size) (W0:=W0) (by assumption)).mono HB.out.size))).mono ?_;rintro e wb ⟨v6,rfl,hRb,hBb⟩;have hKb:=held_any (by first | assumption | exact(Br _ _).drew) hBb)
   | (go_at_call 146;refine(HDv.out _ _ hRb (HB.out.trans ((held3' (N:=W0.heap.size) (W0:=W0) (by assumption)).mono HB.out.size))).mono ?_;rintro e wq ⟨vq,vr,rfl,hRq,hRr,hBq⟩;have hKq:=held_any (by first | assumption | exact(Br _ _).drew) hBq))
 rename_i hHeld
 clear hHeld;have HV3:=hid (Ai (HV.out.1.below hKq) (HV.out.2.below hKq));have HB3:=hid (HB.out.trans (hKq.mono HB.out.size));have HRq:=hid hRq;have HIz:=hid (IsZero_any vr r wq hRr);clear HS HV HB hKq hKb hRb hBb hBq hRr hRq HDv HSh;obtain⟨x0,x1,x2,_⟩:=HV3.out.1.cells
 have hone:∀(m:Nat) (wz:World) (vz:Value),b=m→m≤q+1→Rep W32 wz vz m→Bw wq wz→True:=fun _ _ _ _ _ _ _=>trivial
 clear hone
 cases s1 with
 | false=>
  have hbe:b=q:=HBN.out.trans (if_neg fun h=>absurd h.1 (by decide));have HM:=hid (HOn.out b (by omega));subst hbe;clear HBN HOn HIz;go_wp2_with fail;refine(HM.out _ _ HRq.out (HT.out.below HB3.out)).mono ?_;rintro e wf ⟨sg,pa,ka,ca,pb,kb,cb,rfl,HF,hBf⟩;have HV4:=hid (Ai (HV3.out.2.below hBf) (HB3.out.trans (hBf.mono HB3.out.size)));clear x0 x1 x2 hBf;obtain⟨x0,x1,x2,y0,y1,y2⟩:=HV4.out.1.cells;go_wp2_with fail;exact FracDown_ret rfl (HV4.out.1.store trivial trivial trivial) ⟨_,rfl,HF.out.store3 HV4.out.1 _ _ _,below_set3 HV4.out.2 (Nat.le_succ _)⟩
 | true=>
  by_cases hr0:r=0
  ·have hbe:b=q:=HBN.out.trans (if_neg fun h=>h.2 hr0);have HM:=hid (HOn.out b (by omega));rw[decide_eq_true hr0] at HIz;subst hbe;clear HBN HOn hr0;go_wp2_with fail;refine HIz.out.mono ?_;rintro e w' ⟨rfl,rfl⟩;go_wp2_with fail;refine(HM.out _ _ HRq.out (HT.out.below HB3.out)).mono ?_;rintro e wf ⟨sg,pa,ka,ca,pb,kb,cb,rfl,HF,hBf⟩;have HV4:=hid (Ai (HV3.out.2.below hBf) (HB3.out.trans (hBf.mono HB3.out.size)));clear x0 x1 x2 hBf;obtain⟨x0,x1,x2,y0,y1,y2⟩:=HV4.out.1.cells;go_wp2_with fail;exact FracDown_ret rfl (HV4.out.1.store trivial trivial trivial) ⟨_,rfl,HF.out.store3 HV4.out.1 _ _ _,below_set3 HV4.out.2 (Nat.le_succ _)⟩
  ·have hbe:b=q+1:=HBN.out.trans (if_pos ⟨rfl,hr0⟩);have HM:=hid (HOn.out b (by omega));rw[decide_eq_false hr0] at HIz;subst hbe;clear HBN HOn hr0;go_wp2_with fail;refine HIz.out.mono ?_;rintro e w' ⟨rfl,rfl⟩;go_wp2_with fail;refine(HOf.out _).mono ?_;rintro e wo ⟨v1,rfl,hR1,hB1⟩;have hRqo:=HRq.out.below hB1;clear x0 x1 x2;go_wp2_with fail;refine(HAd.out _ _ _ hRqo hR1).mono ?_;rintro e wp ⟨v2,rfl,hR2,hB2⟩;have hst:=held_any hB1 hB2;replace HV3:=hid (Ai (HV3.out.1.below hst) (HV3.out.2.below hst));replace HB3:=hid (HB3.out.trans (hst.mono HB3.out.size));have HR2:=hid hR2;clear hst hB1 hB2 hR1 hR2 hRqo HRq;obtain⟨x0,x1,x2,_⟩:=HV3.out.1.cells;go_wp2_with fail;refine(HM.out _ _ HR2.out (HT.out.below HB3.out)).mono ?_;rintro e wf ⟨sg,pa,ka,ca,pb,kb,cb,rfl,HF,hBf⟩;have HV4:=hid (Ai (HV3.out.2.below hBf) (HB3.out.trans (hBf.mono HB3.out.size)));clear x0 x1 x2 hBf;obtain⟨x0,x1,x2,y0,y1,y2⟩:=HV4.out.1.cells;go_wp2_with fail;exact FracDown_ret rfl (HV4.out.1.store trivial trivial trivial) ⟨_,rfl,HF.out.store3 HV4.out.1 _ _ _,below_set3 HV4.out.2 (Nat.le_succ _)⟩
theorem FracUp_ret{W:World}{B:Nat}{x y z:Value}{tm:Array Value}{R:Ending→World→Prop}(h2:tm[4]?.getD undef=.pointer (some ⟨B,0,none⟩))(hV:Var3 W B x y z)(hR:R (.returned (.agg #[x,y,z])) W):
  bodyPost Tryz.prog Tryz.f121 R .ret {tmps:=tm,defers:=[]} W:=by
 obtain⟨c0,c1,c2,_,_,_⟩:=hV.cells;exact bodyPost_ret (v:=.agg #[x,y,z]) (by simp [results,Tryz.results121,go_sem,h2,c0,c1,c2]) rfl hR
theorem FracUp_any(v:Value)(t:Tq)(p:Nat)(w:World)(h:FNorm w v t)(hn:t.2.1 < W32 ^ 100000)(hd:t.2.2 < W32 ^ 100000)(h0:0 < t.2.2)(hp:p≤1000000)(ht:TabOk w):
  Calls Tryz.prog 121 #[v,.int .i64 (p:Int)] w fun e w'=>∃v',e=.returned v'∧FNorm w' v' (gup t p)∧Bw w w':=by
 have HO1:=hid (fun (W:World) (hW:Bw w W)=>fopen (t:=fneg t) (Neg_any v t.1 t.2.1 t.2.2 W (FNorm.below h hW)));have HBo:=hid (fun (W:World) (v:Value) (hq:FNorm W v (fneg t)) (hW:Bw w W)=>fopen (t:=gdn (fneg t) p) (FracDown_any v (fneg t) p W hq hn hd h0 hp (ht.below hW)));have HO2:=hid (fun (W:World) (v:Value) (hq:FNorm W v (gdn (fneg t) p))=>fopen (t:=gup t p) (Neg_any v _ _ _ W hq));clear hn hd hp h0 ht;obtain⟨vn1,vd1,rfl,⟨p1,k1,c1,rfl,_⟩,⟨p2,k2,c2,rfl,_⟩⟩:=h;obtain⟨s1,hs1⟩:∃s,s=t.1:=⟨_,rfl⟩;rw[←hs1] at HO1 ⊢;clear hs1;obtain⟨t1,h1⟩:∃s,s=fneg t:=⟨_,rfl⟩;rw[←h1] at HO1 HBo HO2;obtain⟨t2,h2⟩:∃s,s=gdn t1 p:=⟨_,rfl⟩;rw[←h2] at HBo HO2;obtain⟨t3,h3⟩:∃s,s=gup t p:=⟨_,rfl⟩;rw[←h3] at HO2 ⊢;clear h1 h2 h3;have hal:=below_alloc2 w (.cells #[.bool s1,.slice p1 k1 c1,.slice p2 k2 c2] 48) (.cells #[.bool false,.slice none 0 0,.slice none 0 0] 48);have hV2:=Var3.alloc2 w (.cells #[.bool s1,.slice p1 k1 c1,.slice p2 k2 c2] 48) (x:=.bool false) (y:=.slice none 0 0) (z:=.slice none 0 0) 48 trivial trivial trivial;have hV:=(Var3.alloc w (x:=.bool s1) (y:=.slice p1 k1 c1) (z:=.slice p2 k2 c2) 48 trivial trivial trivial).below ((Br _ _).alloc (Lr _) (.cells #[.bool false,.slice none 0 0,.slice none 0 0] 48));go_enter Tryz.func121,Tryz.ntmps121;go_upto_region 1 with fail;generalize(w.alloc (.cells #[.bool s1,.slice p1 k1 c1,.slice p2 k2 c2] 48)).alloc (.cells #[.bool false,.slice none 0 0,.slice none 0 0] 48)=W0 at *;have HB:=hid hal;have HV:=hid hV2;obtain⟨a0,a1,a2,_⟩:=hV.cells;clear hal hV hV2;go_wp2_with fail;refine(HO1.out _ HB.out).mono ?_;rintro e w1 ⟨sa,pa,ka,ca,pb,kb,cb,rfl,hQ,hst⟩;clear a0 a1 a2;replace HV:=hid (HV.out.below hst);replace HB:=hid (HB.out.trans (hst.mono HB.out.size));clear hst;go_wp2_with fail;refine(HBo.out _ _ hQ.out HB.out).mono ?_;rintro e w2 ⟨sc,pc,kc,cc,pd,kd,cd,rfl,hQ2,hst⟩;replace HV:=hid (HV.out.below hst);replace HB:=hid (HB.out.trans (hst.mono HB.out.size));clear hst;go_wp2_with fail;refine(HO2.out _ _ hQ2.out).mono ?_;rintro e w3 ⟨se,pe,ke,ce,pf,kf,cf,rfl,HF,hst⟩;replace HV:=hid (HV.out.below hst);replace HB:=hid (HB.out.trans (hst.mono HB.out.size));clear hst;obtain⟨x0,x1,x2,y0,y1,y2⟩:=HV.out.cells;go_wp2_with fail;exact FracUp_ret rfl (HV.out.store trivial trivial trivial) ⟨_,rfl,HF.out.store3 HV.out _ _ _,below_set3 HB.out (Nat.le_succ _)⟩
def PCell (w:World) (B:Nat) (p:Int):Prop:=w.cell? ⟨B,0,none⟩=some (.int .i64 p)∧B < w.heap.size
theorem PCell.below{w w':World}{B:Nat}{p:Int}(h:PCell w B p)(hb:Bw w w'):PCell w' B p:=
 ⟨(bcellN hb _ _ h.2).trans h.1,Nat.lt_of_lt_of_le h.2 hb.size⟩
theorem Tryz.mkS(s N:Nat)(hs:s≤N)(hN:N≤2000000000)(w:World):(Instr.makeSlice 38 (.int .i64 (s:Int)) (.int .i64 (N:Int))).run Tryz.prog w=.ok (.slice (some ⟨w.heap.size,0,none⟩) s N) (w.alloc (.cells (madeCells #[.int .u32 0] N) 65)):=by
 obtain⟨i,hi,hzz⟩:=Option.map_eq_some_iff.1 Tryz.infoU32;simp only[Prod.mk.injEq] at hzz;obtain⟨hz,hsz,hb⟩:=hzz;have hr:=run_make (P:=Tryz.prog) w 38 65 i (.int .u32 0) Tryz.underlying38 hi hz .i64 .i64 s N (by omega) (by omega) (by rw[hb];omega) (by omega);simpa[hsz,Value.cells] using hr
theorem own_madeS(w:World)(base s N:Nat)(hb:base≤w.heap.size)(hs:s≤N)(hN:N≤2000000000)(f:Nat→Nat)(hf:∀j,j < s→f j=0):
  Own (w.alloc (.cells (madeCells #[.int .u32 0] N) 65)) base (.slice (some ⟨w.heap.size,0,none⟩) s N) s f:=by
 refine⟨by simp,.inr ⟨w.heap.size,N,_,rfl,hb,heap_alloc_new w _,hs,by unfold maxLen;omega,by simp [madeCells],?_⟩⟩
 refine List.ext_getElem (by simp [madeCells];omega) fun i h1 h2=>?_
 have hi:i < s:=by simpa using h2
 simp [madeCells,hf i hi,Nat.mod_one]
theorem shg_eq(x s t:Nat):x*2 ^ (16*s+t)=B16 ^ s*(x*2 ^ t):=by
 rw[Nat.pow_add,Nat.pow_mul,show(2:Nat) ^ 16=B16 from rfl,Nat.mul_left_comm]
theorem shg_lt{x s t k:Nat}(hx:x < B16 ^ k)(ht:t < 16):x*2 ^ (16*s+t) < B16 ^ (s+k+1):=by
 rw[shg_eq,Nat.add_assoc,Nat.pow_add];refine Nat.mul_lt_mul_of_pos_left ?_ (Nat.pow_pos B16_pos);rw[Nat.pow_succ];have h16:2 ^ t < B16:=Nat.lt_of_lt_of_le (Nat.pow_lt_pow_right (by omega) ht) (by decide);exact Nat.mul_lt_mul'' hx h16
def ShgRel (w0:World) (x z s t n1:Nat) (v cv i:Value) (wr:World):Prop:=∃k c:Nat,i=.int .i64 k∧k≤n1∧cv=.int .u32 c∧c=(x % B16 ^ k)*2 ^ t / B16 ^ k∧Own wr w0.heap.size v (s+k) (dg B16 z)∧Bw w0 wr
theorem NatShl_own0(va:Value)(n:Nat)(w:World)(ha:Rep B16 w va 0):
  Calls Tryz.prog 126 #[va,.int .i64 n] w fun e w'=>∃v,e=.returned v∧Rep B16 w' v 0∧Bw w w':=by
 obtain⟨p1,k1,c1,rfl,hk1,hl1,hs1⟩:=ha;obtain rfl:=(hl1.zero_iff B16_pos).1 rfl;clear hs1 hl1;go_enter Tryz.func126,Tryz.ntmps126
 go_wp2_with (first
  | (at_builtin;refine wpList_append_run rfl _ _ _ rfl _ _ _ rfl rfl (Tryz.app0 _ _ p1 c1) ?_))
 go_ret
 exact⟨_,rfl,⟨_,0,_,rfl,by omega,Len.zero,Slc.zero⟩,(Br _ _).alloc (Lr _) _⟩
theorem NatShg_own(va:Value)(x n s t:Nat)(w:World)(ha:Rep B16 w va x)(hx:x < B16 ^ 1000000000)(hst:n=16*s+t)(ht:t < 16)(hs:s≤1000000)(hx0:0 < x)(hn0:0 < n):
  Calls Tryz.prog 126 #[va,.int .i64 n] w fun e w'=>∃v m,e=.returned v∧Len B16 (x*2 ^ n) m∧Own w' w.heap.size v m (dg B16 (x*2 ^ n))∧Bw w w':=by
 obtain⟨i0,hi,hz0,hz1,hz2⟩:=info_parts Tryz.infoU32;obtain⟨p1,k1,c1,rfl,hk1,hl1,hs1⟩:=ha;have hb1:=hl1.le B16_pos hx;have hz1':=hl1.zero_iff B16_pos
 have h0:k1≠0:=fun h=>by have:=hz1'.2 h;omega
 have HS:=hid (Ai hs1 (Ai hl1 hx))
 have hzt:x*2 ^ n=B16 ^ s*(x*2 ^ t):=by rw[hst];exact shg_eq x s t
 have HZs:=hid (fun k=>(show dg B16 (x*2 ^ n) (s+k)=dg B16 (x*2 ^ t) k by rw[hzt];exact dg_mul_pow_ge B16_pos));have HZ0:=hid (fun j (hj:j < s)=>(show dg B16 (x*2 ^ n) j=0 by rw[hzt];exact dg_mul_pow_lt B16_pos hj));have HZl:=hid (show x*2 ^ n < B16 ^ (s+k1+1) by rw[hst];exact shg_lt hl1.1 ht)
 have hq1:(n:Int) / 16=s:=by omega
 have hr1:(n:Int) % 16=t:=by omega
 clear hx hs1 hl1 hzt hst hz1' hx0;obtain⟨z,hz⟩:∃z,z=x*2 ^ n:=⟨_,rfl⟩;rw[←hz] at HZs HZ0 HZl ⊢;clear hz
 have hf:((k1:Int) == 0)=false:=by simpa using h0
 have hn0':¬n=0:=by omega
 clear hn0;have hn1:(decide ((n:Int)≤0))=false:=decide_eq_false (by omega)
 have hq2:Int.tdiv (n:Int) 16=s:=by rw[Int.tdiv_eq_ediv_of_nonneg (by omega)];exact hq1
 have hmk:∀W:World,(Instr.makeSlice 38 (.int .i64 (s:Int)) (.int .i64 ((s:Int)+k1+1))).run Tryz.prog W=.ok (.slice (some ⟨W.heap.size,0,none⟩) s (s+k1+1)) (W.alloc (.cells (madeCells #[.int .u32 0] (s+k1+1)) 65)):=Tryz.mkS s (s+k1+1) (by omega) (by omega);go_enter Tryz.func126,Tryz.ntmps126;go_wp2_with fail;clear hmk
 have hr2:Int.tmod (n:Int) 16=t:=by rw[Int.tmod_eq_emod_of_nonneg (by omega)];exact hr1
 go_loopw [5,6,31] (fun v cv i wr=>ShgRel w x z s t k1 v cv i wr) (fun _ _ i _=>k1 - (intOf i).toNat)
 case atStart=>exact⟨0,0,rfl,by omega,rfl,by simp [Nat.mod_one],own_madeS w _ s (s+k1+1) (Lr _) (by omega) (by omega) _ HZ0.out,(Br _ _).alloc (Lr _) _⟩
 case round=>
  obtain⟨k,c,rfl,hkk,rfl,hc,hown,hB⟩:=hrel
  by_cases hlt:k < k1
  ·have hsl:=HS.out.1.below hB;obtain⟨b0,o0,rfl,hc0⟩:=hsl (by omega);have hc1:=hc0 k hlt;obtain⟨q1,q2,q3⟩:=shl16_step hc;rw[←HZs.out k] at q2;have HQ:=hid (Ai q2 q3);have hg:=dg_16 x k
   have hwn:IntKind.u64.wrap (t:Int)=t:=by simp [IntKind.wrap,IntKind.bits,IntKind.signed];omega
   clear q2 q3 hc0 hsl hc;generalize dg B16 x k=g at *;have hp2:2 ^ t≤2 ^ 15:=Nat.pow_le_pow_right (by omega) (by omega);have hgp:g*2 ^ t < 4294967296:=Nat.lt_of_le_of_lt (Nat.mul_le_mul (show g≤65535 by omega) hp2) (by decide);have hor:=or_low16 g t c q1 hgp ht
   have hmod:((g:Int)*2 ^ t) % 4294967296=(g:Int)*2 ^ t:=by
    rw[show(g:Int)*2 ^ t=((g*2 ^ t:Nat):Int) by push_cast;rfl];omega
   have hS:g*2 ^ t+c < 4294967296:=by
    have:=Nat.lt_of_lt_of_le q1 hp2;have hgp2:g*2 ^ t≤65535*2 ^ 15:=Nat.mul_le_mul (by omega) hp2;omega
   generalize hSS:g*2 ^ t+c=S at *;have hsize:=hB.size
   have hown1:=fun q hq=>(World.ownsRow.lt hown q hq).1
   have hal:=(show wr.ownsRow w.heap.size 65 1 u5 (s+k) ((List.range (s+k)).map (fun j=>Value.int .u32 (dg B16 z j:Nat))) from hown).alloc (.cells #[.int .u32 ((S:Int) % 65536)] 65);have HA:=hid (Ai hal (Ai hB (Ai hown1 HQ.out)));clear hal hown hB hown1 hSS q1 hgp hp2
   go_wp2_with (first
    | (at_builtin;refine wpList_append_own _ rfl _ _ 38 rfl w.heap.size 65 i0 (.int .u32 0) 1 4 Tryz.underlying38 hi hz0 hz1 hz2 rfl (by decide) _ _ _ rfl HA.out.1 ⟨wr.heap.size,0,none⟩ 1 1 [.int .u32 ((S:Int) % 65536)] rfl rfl (cell_one_new _ _ _) (fun x hx=>by simp at hx;subst hx;rfl) (by unfold maxLen;omega) (by omega) (by simp;omega) ?_;intro v' w3 hown' hgrow3 hnil3))
   go_roundw
   case rel=>
    refine⟨k+1,S / 65536,by go_num,by omega,congrArg (Value.int .u32) (by omega),HA.out.2.2.2.2.symm,Own.push hown' (by show((S:Int) % 65536)=((dg B16 z (s+k):Nat):Int);rw[HA.out.2.2.2.1];omega),?_⟩;exact(HA.out.2.1.alloc hsize _).grown (show(wr.alloc _).grownBy w3 u5.ownBlock from hgrow3) (by rw[World.size_alloc];omega) HA.out.2.2.1
   case measure=>simp [intOf];omega
  ·have hk':k=k1:=by omega
   subst hk';have hx1:x < B16 ^ k:=HS.out.2.1.1
   have hc2:c=x*2 ^ t / B16 ^ k:=by rw[hc,Nat.mod_eq_of_lt hx1]
   have hy:x*2 ^ t < B16 ^ (k+1):=by
    rw[Nat.pow_succ];have h16:2 ^ t < B16:=Nat.lt_of_lt_of_le (Nat.pow_lt_pow_right (by omega) ht) (by decide);exact Nat.mul_lt_mul'' hx1 h16
   have hdc:dg B16 z (s+k)=c:=by rw[HZs.out,dg_top hy,hc2]
   replace hy:=HZl.out
   have hcl:c < 65536:=by rw[←hdc];exact dg_16 _ _
   have hsize:=hB.size
   have hown1:=fun q hq=>(World.ownsRow.lt hown q hq).1
   have hal:=(show wr.ownsRow w.heap.size 65 1 u5 (s+k) ((List.range (s+k)).map (fun j=>Value.int .u32 (dg B16 z j:Nat))) from hown).alloc (.cells #[.int .u32 (c:Int)] 65);have HA:=hid (Ai hal (Ai hB (Ai hown1 (Ai hdc hy))));clear hal hown hB hown1 hdc hy hc hc2 hx1
   go_wp2_with (first
    | (at_builtin;refine wpList_append_own _ rfl _ _ 38 rfl w.heap.size 65 i0 (.int .u32 0) 1 4 Tryz.underlying38 hi hz0 hz1 hz2 rfl (by decide) _ _ _ rfl HA.out.1 ⟨wr.heap.size,0,none⟩ 1 1 [.int .u32 (c:Int)] rfl rfl (cell_one_new _ _ _) (fun x hx=>by simp at hx;subst hx;rfl) (by unfold maxLen;omega) (by omega) (by simp;omega) ?_;intro v' w3 hown' hgrow3 hnil3))
   have hB3:=(HA.out.2.1.alloc hsize _).grown (show(wr.alloc _).grownBy w3 u5.ownBlock from hgrow3) (by rw[World.size_alloc];omega) HA.out.2.2.1;have hO3:Own w3 w.heap.size v' (s+k+1) (dg B16 z):=Own.push hown' (by show(c:Int)=((dg B16 z (s+k):Nat):Int);rw[HA.out.2.2.2.1]);obtain⟨p3,c3,rfl,hkc,hsl3⟩:=hO3.slc;have htr:=hid (trim_any p3 (s+k+1) c3 z w3 (by omega) hkc HA.out.2.2.2.2 hsl3);have HF:=hid (Ai hO3 hB3);clear hown' hgrow3 hnil3 hO3 hsl3 hB3 HA;go_wp2_with fail;refine htr.out.mono ?_;rintro e w' ⟨m,rfl,hm,hlen,rfl⟩;clear htr;go_wp2_with fail
   go_ret
   exact⟨_,m,rfl,hlen,HF.out.1.take hm,HF.out.2⟩
theorem NatShg_any(va:Value)(x n:Nat)(w:World)(ha:Rep B16 w va x)(hx:x < B16 ^ 1000000000)(hn:n≤1000000):
  Calls Tryz.prog 126 #[va,.int .i64 n] w fun e w'=>∃v,e=.returned v∧Rep B16 w' v (x*2 ^ n)∧Bw w w':=by
 by_cases h0:n < 16
 ·exact NatShl_any va x n w ha hx h0
 ·by_cases hx0:x=0
  ·subst hx0;refine(NatShl_own0 va n w ha).mono ?_;rintro e w' ⟨v,he,hv,hb⟩;exact⟨v,he,by rw[Nat.zero_mul];exact hv,hb⟩
  ·refine(NatShg_own va x n (n / 16) (n % 16) w ha hx (Nat.div_add_mod n 16).symm (Nat.mod_lt _ (by omega)) (by omega) (Nat.pos_of_ne_zero hx0) (by omega)).mono ?_;rintro e w' ⟨v,m,he,hl,ho,hb⟩;obtain⟨p,cap,rfl,hc,hs⟩:=ho.slc;exact⟨_,he,⟨p,m,cap,rfl,hc,hl,hs⟩,hb⟩
theorem two_bk{p k:Nat}(hp:p < 16*k):2 ^ p < B16 ^ k:=by
 have h:(2:Nat) ^ p < 2 ^ (16*k):=Nat.pow_lt_pow_right (by decide) hp
 rwa [Nat.pow_mul] at h
theorem two_b{p:Nat}(hp:p≤1000000):2 ^ p < B16 ^ 62501:=by
 generalize hk:62501=k;exact two_bk (by omega)
theorem shg_b{x A p:Nat}(hx:x < B16 ^ A)(hp:p≤1000000):x*2 ^ p < B16 ^ (A+62501):=by
 rw[Nat.pow_add];exact Nat.mul_lt_mul'' hx (two_b hp)
theorem rScaled_ret{W:World}{B:Nat}{x y z:Value}{tm:Array Value}{R:Ending→World→Prop}(h2:tm[4]?.getD undef=.pointer (some ⟨B,0,none⟩))(hV:Var3 W B x y z)(hR:R (.returned (.agg #[x,y,z])) W):
  bodyPost Tryz.prog Tryz.f95 R .ret {tmps:=tm,defers:=[]} W:=by
 obtain⟨c0,c1,c2,_,_,_⟩:=hV.cells;exact bodyPost_ret (v:=.agg #[x,y,z]) (by simp [results,Tryz.results95,go_sem,h2,c0,c1,c2]) rfl hR
theorem rScaledUpR_any(r:Nat)(v:Value)(t:Tq)(p A:Nat)(w:World)(h:QNorm w v (t.1,t.2.1,r))(hr0:den1 r=t.2.2)(hn:t.2.1 < B16 ^ A)(hd:t.2.2 < B16 ^ A)(hA:A≤1000000)(hp:p≤1000000)(h0:0 < t.2.2):
  Calls Tryz.prog 95 #[v,.int .i64 (p:Int)] w fun e w'=>∃v',e=.returned v'∧QNorm w' v' (sup t p)∧Bw w w':=by
 have HDa:=hid (fun (W:World) (hW:Bw w W)=>den_any v t.1 t.2.1 r W (h.below hW));rw[hr0] at HDa;have HB:=hid (Ai (b_big hn (show A≤1000000000 by omega)) (b_big hd (show A≤1000000000 by omega)));have HP:=hid hp;have HX:=hid (Ai (shg_b hn hp) (b_bigk hd (Nat.le_add_right A 62501)))
 have hA2:A+62501≤800000000:=by omega
 have HMk:=hid (fun (W:World) (vN vD:Value) (hN:Rep B16 W vN (t.2.1*2 ^ p)) (hD:Rep B16 W vD (t.2.2))=>Make_open t.1 vN vD (t.2.1*2 ^ p) (t.2.2) (A+62501) W hN hD HX.out.1 HX.out.2 hA2 (h0));have hg:decide ((p:Int) < 0)=false:=decide_eq_false (by omega);clear hn hd hA hp h0 hA2 HX hr0;obtain⟨vn1,vd1,rfl,hrn1,hrd1⟩:=h;have HR:=hid (Ai hrn1 hrd1);have HRn:=hid (fun (W:World) (hW:Bw w W)=>hrn1.below hW)
 show Calls _ _ _ _ fun e w'=>∃v',e=.returned v'∧QNorm w' v' (frac t.1 (t.2.1*2 ^ p) t.2.2)∧Bw w w'
 obtain⟨p1,k1,c1,rfl,_,_,_⟩:=hrn1;obtain⟨p2,k2,c2,rfl,_,_,_⟩:=hrd1;obtain⟨s1,hs1⟩:∃s,s=t.1:=⟨_,rfl⟩;obtain⟨n1,hn1⟩:∃n,n=t.2.1:=⟨_,rfl⟩;obtain⟨d1,hd1⟩:∃n,n=t.2.2:=⟨_,rfl⟩;simp only[←hs1,←hn1,←hd1] at *;clear hs1 hn1 hd1;have HSh:=hid (fun (W:World) (hW:Bw w W)=>NatShg_any _ n1 p W (HR.out.1.below hW) HB.out.1 HP.out);obtain⟨r,hr⟩:∃r,r=frac s1 (n1*2 ^ p) (d1):=⟨_,rfl⟩;rw[←hr] at HMk ⊢;clear hr;go_enter Tryz.func95,Tryz.ntmps95;go_upto_region 2 with fail;have hVa:=(Var3.alloc w (x:=.bool s1) (y:=.slice p1 k1 c1) (z:=.slice p2 k2 c2) 40 trivial trivial trivial).below ((Br _ _).alloc (Lr _) (.cells #[.bool false,.slice none 0 0,.slice none 0 0] 40));have hVr:=Var3.alloc2 w (.cells #[.bool s1,.slice p1 k1 c1,.slice p2 k2 c2] 40) (x:=.bool false) (y:=.slice none 0 0) (z:=.slice none 0 0) 40 trivial trivial trivial;have hB0:=below_alloc2 w (.cells #[.bool s1,.slice p1 k1 c1,.slice p2 k2 c2] 40) (.cells #[.bool false,.slice none 0 0,.slice none 0 0] 40);generalize(w.alloc (.cells #[.bool s1,.slice p1 k1 c1,.slice p2 k2 c2] 40)).alloc (.cells #[.bool false,.slice none 0 0,.slice none 0 0] 40)=W0 at *
 have hn1:w.heap.size+1≤W0.heap.size:=by obtain⟨_,h0,_⟩:=hVr;exact Nat.le_of_lt (Array.getElem?_eq_some_iff.1 h0).1
 have HV:=hid (Ai hVr hB0);have HB0:=hid hB0
 have HS:Hid (∀w',Below (w.heap.size+1) W0 w'→(w'.cell? ⟨w.heap.size,0,none⟩=some (.bool s1)∧w'.cell? ⟨w.heap.size,1,none⟩=some (.slice p1 k1 c1)∧w'.cell? ⟨w.heap.size,2,none⟩=some (.slice p2 k2 c2)∧Hid (Below (w.heap.size+1) W0 w'))):=
  hid fun w' hb=>⟨(bcellN hb _ _ (by omega)).trans hVa.cells.1,(bcellN hb _ _ (by omega)).trans hVa.cells.2.1,(bcellN hb _ _ (by omega)).trans hVa.cells.2.2.1,hid hb⟩
 clear hVa hVr hB0
 go_region_held3 (fun w'=>w'.cell? ⟨w.heap.size,0,none⟩=some (.bool s1)∧w'.cell? ⟨w.heap.size,1,none⟩=some (.slice p1 k1 c1)∧w'.cell? ⟨w.heap.size,2,none⟩=some (.slice p2 k2 c2)∧Hid (Below (w.heap.size+1) W0 w'))
  (first | exact HS.out _ (Br _ _).drew | (exact HS.out _ (by assumption)) | exact HS.out _ (below_set3 (by assumption) (Lr _)))
  (first
   | (go_at_call 105;refine(HDa.out _ (HB0.out.trans ((held3' (N:=w.heap.size+1) (W0:=W0) (by assumption)).mono (by omega)))).mono ?_;rintro e wa ⟨v6,rfl,hRa,hBa⟩;have hKa:=held_any (by first | assumption | exact(Br _ _).drew) hBa;have hKa2:=below_pre hKa hn1;obtain⟨p6,k6,c6,rfl,hx6⟩:=id hRa;clear hx6)
   | (go_at_call 126;refine(HSh.out _ (HB0.out.trans ((held3' (N:=w.heap.size+1) (W0:=W0) (by assumption)).mono (by omega)))).mono ?_;rintro e ws ⟨v7,rfl,hRs,hBs⟩;have hKs:=held_any (by first | assumption | exact(Br _ _).drew) hBs;have hKs2:=below_pre hKs hn1)
   | (go_at_call 47;refine(HMk.out _ _ _ (by first | exact hRs | exact hRs.below (by assumption) | exact(hRs.below hBa).below (by assumption) | exact(hRs.below hBs).below (by assumption) | exact((hRs.below hBa).below hBs).below (by assumption) | exact((hRs.below hBs).below hBa).below (by assumption)) (by first | exact hRa | exact hRa.below (by assumption) | exact(hRa.below hBa).below (by assumption) | exact(hRa.below hBs).below (by assumption) | exact((hRa.below hBa).below hBs).below (by assumption) | exact((hRa.below hBs).below hBa).below (by assumption))).mono ?_;rintro e wf ⟨sg,pa,ka,ca,pb,kb,cb,rfl,HF,hBf⟩;have hKf:=held_any (by first | assumption | exact(Br _ _).drew) hBf;have hKf2:=below_pre hKf hn1;obtain⟨x0,x1,x2,y0,y1,y2⟩:=(HV.out.1.below hKf).cells))
 all_goals
  rename_i hHeld
  clear hHeld
  go_wp2_with fail
  exact rScaled_ret rfl ((HV.out.1.below hKf).store trivial trivial trivial) ⟨_,rfl,HF.out.store3 (HV.out.1.below hKf) _ _ _,below_set3 (HV.out.2.trans (hKf.mono HV.out.2.size)) (Nat.le_succ _)⟩
theorem rScaledUp_any(v:Value)(t:Tq)(p A:Nat)(w:World)(h:QNorm w v t)(hn:t.2.1 < B16 ^ A)(hd:t.2.2 < B16 ^ A)(hA:A≤1000000)(hp:p≤1000000)(h0:0 < t.2.2):
  Calls Tryz.prog 95 #[v,.int .i64 (p:Int)] w fun e w'=>∃v',e=.returned v'∧QNorm w' v' (sup t p)∧Bw w w':=
 rScaledUpR_any t.2.2 v t p A w h (den1_self h0) hn hd hA hp h0
theorem rScaledDn_any(v:Value)(t:Tq)(p A:Nat)(w:World)(h:QNorm w v t)(hn:t.2.1 < B16 ^ A)(hd:t.2.2 < B16 ^ A)(hA:A≤1000000)(hp:p≤1000000)(hp0:0 < p)(h0:0 < t.2.2):
  Calls Tryz.prog 95 #[v,.int .i64 (-(p:Int))] w fun e w'=>∃v',e=.returned v'∧QNorm w' v' (sdn t p)∧Bw w w':=by
 have HDa:=hid (fun (W:World) (hW:Bw w W)=>den_any v t.1 t.2.1 t.2.2 W (h.below hW));rw[den1_self h0] at HDa;have HB:=hid (Ai (b_big hn (show A≤1000000000 by omega)) (b_big hd (show A≤1000000000 by omega)));have HP:=hid hp;have HX:=hid (Ai (b_bigk hn (Nat.le_add_right A 62501)) (shg_b hd hp))
 have hA2:A+62501≤800000000:=by omega
 have HMk:=hid (fun (W:World) (vN vD:Value) (hN:Rep B16 W vN (t.2.1)) (hD:Rep B16 W vD (t.2.2*2 ^ p))=>Make_open t.1 vN vD (t.2.1) (t.2.2*2 ^ p) (A+62501) W hN hD HX.out.1 HX.out.2 hA2 (Nat.mul_pos h0 (Nat.pow_pos (by decide))));have hg:decide (0 < p)=true:=decide_eq_true hp0
 have hwr:IntKind.i64.wrap (p:Int)=p:=by rw[IntKind.wrap_i64];omega
 clear hn hd hA hp hp0 h0 hA2 HX;obtain⟨vn1,vd1,rfl,hrn1,hrd1⟩:=h;have HR:=hid (Ai hrn1 hrd1);have HRn:=hid (fun (W:World) (hW:Bw w W)=>hrn1.below hW)
 show Calls _ _ _ _ fun e w'=>∃v',e=.returned v'∧QNorm w' v' (frac t.1 t.2.1 (t.2.2*2 ^ p))∧Bw w w'
 obtain⟨p1,k1,c1,rfl,_,_,_⟩:=hrn1;obtain⟨p2,k2,c2,rfl,_,_,_⟩:=hrd1;obtain⟨s1,hs1⟩:∃s,s=t.1:=⟨_,rfl⟩;obtain⟨n1,hn1⟩:∃n,n=t.2.1:=⟨_,rfl⟩;obtain⟨d1,hd1⟩:∃n,n=t.2.2:=⟨_,rfl⟩;simp only[←hs1,←hn1,←hd1] at *;clear hs1 hn1 hd1;have HSh:=hid (fun (W:World) (v1:Value) (h1:Rep B16 W v1 d1)=>NatShg_any v1 d1 p W h1 HB.out.2 HP.out);obtain⟨r,hr⟩:∃r,r=frac s1 (n1) (d1*2 ^ p):=⟨_,rfl⟩;rw[←hr] at HMk ⊢;clear hr;go_enter Tryz.func95,Tryz.ntmps95;go_upto_region 2 with fail;have hVa:=(Var3.alloc w (x:=.bool s1) (y:=.slice p1 k1 c1) (z:=.slice p2 k2 c2) 40 trivial trivial trivial).below ((Br _ _).alloc (Lr _) (.cells #[.bool false,.slice none 0 0,.slice none 0 0] 40));have hVr:=Var3.alloc2 w (.cells #[.bool s1,.slice p1 k1 c1,.slice p2 k2 c2] 40) (x:=.bool false) (y:=.slice none 0 0) (z:=.slice none 0 0) 40 trivial trivial trivial;have hB0:=below_alloc2 w (.cells #[.bool s1,.slice p1 k1 c1,.slice p2 k2 c2] 40) (.cells #[.bool false,.slice none 0 0,.slice none 0 0] 40);generalize(w.alloc (.cells #[.bool s1,.slice p1 k1 c1,.slice p2 k2 c2] 40)).alloc (.cells #[.bool false,.slice none 0 0,.slice none 0 0] 40)=W0 at *
 have hn1:w.heap.size+1≤W0.heap.size:=by obtain⟨_,h0,_⟩:=hVr;exact Nat.le_of_lt (Array.getElem?_eq_some_iff.1 h0).1
 have HV:=hid (Ai hVr hB0);have HB0:=hid hB0
 have HS:Hid (∀w',Below (w.heap.size+1) W0 w'→(w'.cell? ⟨w.heap.size,0,none⟩=some (.bool s1)∧w'.cell? ⟨w.heap.size,1,none⟩=some (.slice p1 k1 c1)∧w'.cell? ⟨w.heap.size,2,none⟩=some (.slice p2 k2 c2)∧Hid (Below (w.heap.size+1) W0 w'))):=
  hid fun w' hb=>⟨(bcellN hb _ _ (by omega)).trans hVa.cells.1,(bcellN hb _ _ (by omega)).trans hVa.cells.2.1,(bcellN hb _ _ (by omega)).trans hVa.cells.2.2.1,hid hb⟩
 clear hVa hVr hB0
 go_region_held3 (fun w'=>w'.cell? ⟨w.heap.size,0,none⟩=some (.bool s1)∧w'.cell? ⟨w.heap.size,1,none⟩=some (.slice p1 k1 c1)∧w'.cell? ⟨w.heap.size,2,none⟩=some (.slice p2 k2 c2)∧Hid (Below (w.heap.size+1) W0 w'))
  (first | exact HS.out _ (Br _ _).drew | (exact HS.out _ (by assumption)) | exact HS.out _ (below_set3 (by assumption) (Lr _)))
  (first
   | (go_at_call 105;refine(HDa.out _ (HB0.out.trans ((held3' (N:=w.heap.size+1) (W0:=W0) (by assumption)).mono (by omega)))).mono ?_;rintro e wa ⟨v6,rfl,hRa,hBa⟩;have hKa:=held_any (by first | assumption | exact(Br _ _).drew) hBa;have hKa2:=below_pre hKa hn1;obtain⟨p6,k6,c6,rfl,hx6⟩:=id hRa;clear hx6)
   | (go_at_call 126;(try rw[hwr]);refine(HSh.out _ _ hRa).mono ?_;rintro e ws ⟨v7,rfl,hRs,hBs⟩;have hKs:=held_any (by first | assumption | exact(Br _ _).drew) hBs;have hKs2:=below_pre hKs hn1)
   | (go_at_call 47;refine(HMk.out _ _ _ (HRn.out _ (HB0.out.trans (hKs.mono (by omega)))) hRs).mono ?_;rintro e wf ⟨sg,pa,ka,ca,pb,kb,cb,rfl,HF,hBf⟩;have hKf:=held_any (by first | assumption | exact(Br _ _).drew) hBf;have hKf2:=below_pre hKf hn1;obtain⟨x0,x1,x2,y0,y1,y2⟩:=(HV.out.1.below hKf).cells))
 all_goals
  rename_i hHeld
  clear hHeld
  go_wp2_with fail
  exact rScaled_ret rfl ((HV.out.1.below hKf).store trivial trivial trivial) ⟨_,rfl,HF.out.store3 (HV.out.1.below hKf) _ _ _,below_set3 (HV.out.2.trans (hKf.mono HV.out.2.size)) (Nat.le_succ _)⟩
theorem sup_zero(t:Tq):sup t 0=sdn t 0:=by unfold sup sdn;rw[Nat.pow_zero,Nat.mul_one,Nat.mul_one]
theorem rScaledNeg_any(v:Value)(t:Tq)(p A:Nat)(w:World)(h:QNorm w v t)(hn:t.2.1 < B16 ^ A)(hd:t.2.2 < B16 ^ A)(hA:A≤1000000)(hp:p≤1000000)(h0:0 < t.2.2):
  Calls Tryz.prog 95 #[v,.int .i64 (-(p:Int))] w fun e w'=>∃v',e=.returned v'∧QNorm w' v' (sdn t p)∧Bw w w':=by
 rcases Nat.eq_zero_or_pos p with hz | hz
 ·subst hz;rw[←sup_zero];exact rScaledUp_any v t 0 A w h hn hd hA hp h0
 ·exact rScaledDn_any v t p A w h hn hd hA hp hz h0
theorem sup_bn{t:Tq}{p A:Nat}(hn:t.2.1 < B16 ^ A)(hd:t.2.2 < B16 ^ A)(hp:p≤1000000):(sup t p).2.1 < B16 ^ (A+62501)∧(sup t p).2.2 < B16 ^ (A+62501):=
 ⟨Nat.lt_of_le_of_lt (Nat.div_le_self _ _) (shg_b hn hp),Nat.lt_of_le_of_lt (Nat.div_le_self _ _) (b_bigk hd (Nat.le_add_right _ _))⟩
theorem succ_b{q A:Nat}(hq:q < B16 ^ A):q+1 < B16 ^ (A+1):=by
 rw[Nat.pow_succ];have:B16 ^ A*2≤B16 ^ A*B16:=Nat.mul_le_mul_left _ (by decide);have h0:0 < B16 ^ A:=Nat.pow_pos B16_pos;omega
theorem one_b{A:Nat}(hA:1≤A):1 < B16 ^ A:=Nat.lt_of_lt_of_le (by decide:1 < B16 ^ 1) (Nat.pow_le_pow_right B16_pos hA)
theorem fbot_bn{t:Tq}{A:Nat}(hn:t.2.1 < B16 ^ A):(fbot t).2.1 < B16 ^ (A+1)∧(fbot t).2.2 < B16 ^ (A+1):=by
 unfold fbot;rw[fracOne];exact⟨Nat.lt_of_le_of_lt (botn_le t) (succ_b hn),one_b (Nat.le_add_left _ _)⟩
theorem fbot_pos(t:Tq):0 < (fbot t).2.2:=by
 unfold fbot;rw[fracOne];exact Nat.one_pos
theorem ftop_pos(t:Tq):0 < (ftop t).2.2:=fbot_pos (fneg t)
theorem ftop_bn{t:Tq}{A:Nat}(hn:t.2.1 < B16 ^ A):(ftop t).2.1 < B16 ^ (A+1)∧(ftop t).2.2 < B16 ^ (A+1):=fbot_bn (t:=fneg t) hn
theorem rGridDown_ret{W:World}{B:Nat}{x y z:Value}{tm:Array Value}{R:Ending→World→Prop}(h2:tm[4]?.getD undef=.pointer (some ⟨B,0,none⟩))(hV:Var3 W B x y z)(hR:R (.returned (.agg #[x,y,z])) W):
  bodyPost Tryz.prog Tryz.f59 R .ret {tmps:=tm,defers:=[]} W:=by
 obtain⟨c0,c1,c2,_,_,_⟩:=hV.cells;exact bodyPost_ret (v:=.agg #[x,y,z]) (by simp [results,Tryz.results59,go_sem,h2,c0,c1,c2]) rfl hR
theorem rGridUp_ret{W:World}{B:Nat}{x y z:Value}{tm:Array Value}{R:Ending→World→Prop}(h2:tm[4]?.getD undef=.pointer (some ⟨B,0,none⟩))(hV:Var3 W B x y z)(hR:R (.returned (.agg #[x,y,z])) W):
  bodyPost Tryz.prog Tryz.f60 R .ret {tmps:=tm,defers:=[]} W:=by
 obtain⟨c0,c1,c2,_,_,_⟩:=hV.cells;exact bodyPost_ret (v:=.agg #[x,y,z]) (by simp [results,Tryz.results60,go_sem,h2,c0,c1,c2]) rfl hR
end Go.Proofs.YteblinkehldghaaGreatDoor
