/- Numbers of the program: unary, binary, change, combine, FromInt. -/
import Derived.Test.YteblinkehldghaaGreatDoorFracX
set_option maxHeartbeats 4000000
set_option maxRecDepth 100000
namespace Go.Proofs.YteblinkehldghaaGreatDoor
open Go.RowKit Dg
open And renaming intro→Ai
open Nat renaming le_refl→Lr
open Below renaming refl→Br
def FRes (w:World) (e:Ending) (c:Int) (t:Tq):Prop:=
 (c≠0∧e=.returned (.tuple #[zeroF,.int .i64 c]))∨
 (c=0∧∃sg pa ka ca pb kb cb,e=.returned (.tuple #[.agg #[.bool sg,.slice pa ka ca,.slice pb kb cb],.int .i64 0])∧Hid (FNorm w (.agg #[.bool sg,.slice pa ka ca,.slice pb kb cb]) t))
theorem FracOf_open(v:Value)(s:Bool)(n d:Nat)(w:World)(h:ARep w v s n d)(ht:TabOk w):
  Calls Tryz.prog 161 #[v] w fun e w'=>Bw w w'∧FRes w' e (if large n d then 1 else 0) (frac s n (den1 d)):=by
 refine(FracOf_any v s n d w h ht).mono ?_;rintro e w' ⟨hB,⟨hL,he⟩ | ⟨hL,v',he,vn,vd,hv,h1,h2⟩⟩
 ·exact⟨hB,.inl ⟨by rw[hL];decide,by rw[hL];exact he⟩⟩
 ·obtain⟨pa,ka,ca,rfl,a1⟩:=id h1;obtain⟨pb,kb,cb,rfl,a2⟩:=id h2;exact⟨hB,.inr ⟨by rw[hL];rfl,_,pa,ka,ca,pb,kb,cb,by rw[he,hv];rfl,hid ⟨_,_,rfl,h1,h2⟩⟩⟩
theorem FracRat_open(v:Value)(t:Tq)(w:World)(h:FNorm w v t)(hn:t.2.1 < W32 ^ 1000000000)(hd:t.2.2 < W32 ^ 1000000000):
  Calls Tryz.prog 143 #[v] w fun e w'=>Bw w w'∧FRes w' e (if big t.2.1 t.2.2 then 1 else 0) (t.1,t.2.1,den0 t.2.2):=by
 refine(FracRat_any v t.1 t.2.1 t.2.2 w h hn hd).mono ?_;rintro e w' ⟨hB,⟨hL,he⟩ | ⟨hL,v',he,vn,vd,hv,h1,h2⟩⟩
 ·exact⟨hB,.inl ⟨by rw[hL];decide,by rw[hL];exact he⟩⟩
 ·obtain⟨pa,ka,ca,rfl,a1⟩:=id h1;obtain⟨pb,kb,cb,rfl,a2⟩:=id h2;exact⟨hB,.inr ⟨by rw[hL];rfl,_,pa,ka,ca,pb,kb,cb,by rw[he,hv],hid ⟨_,_,rfl,h1,h2⟩⟩⟩
theorem call_enter{P:Program}{f:FuncId}{fn:Func}{c:Code}(hf:P.funcs[f]?=some fn)(hname:(fn.name == "runtime.NumGoroutine")=false)(hb:fn.body=some c)(args:Array Value)(w:World):
  (callFunc f args).run P w=.ok (.enter f args) w:=by
 have h1:fn.name≠ "runtime.NumGoroutine":=by simpa using hname
 simp [callFunc,hf,h1,hb]
def FCell (w:World) (B:Nat) (g:FuncId) (cap:Array Value):Prop:=w.cell? ⟨B,0,none⟩=some (.func (.func g) #[] cap)∧B < w.heap.size
theorem FCell.below{w w':World}{B:Nat}{g:FuncId}{cap:Array Value}(h:FCell w B g cap)(hb:Bw w w'):FCell w' B g cap:=
 ⟨(bcellN hb _ _ h.2).trans h.1,Nat.lt_of_lt_of_le h.2 hb.size⟩
def outF (t:Tq):Tq:=(t.1,t.2.1,den0 t.2.2)
theorem nFromInt_ret{W:World}{B:Nat}{x y z:Value}{tm:Array Value}{R:Ending→World→Prop}(h2:tm[2]?.getD undef=.pointer (some ⟨B,0,none⟩))(hV:Var3 W B x y z)(hR:R (.returned (.agg #[x,y,z])) W):
  bodyPost Tryz.prog Tryz.f109 R .ret {tmps:=tm,defers:=[]} W:=by
 obtain⟨c0,c1,c2,_,_,_⟩:=hV.cells;exact bodyPost_ret (v:=.agg #[x,y,z]) (by simp [results,Tryz.results109,go_sem,h2,c0,c1,c2]) rfl hR
theorem big_small{m d:Nat}(hm:m < W32 ^ 3)(hd:d < W32 ^ 3):big m d=false:=by
 unfold big;have h:W32 ^ 3≤W32 ^ 64:=Nat.pow_le_pow_right W32_pos (by omega);exact decide_eq_false (by omega)
theorem lt_64{m:Nat}(h:m < 18446744073709551616):m < W32 ^ 3:=Nat.lt_of_lt_of_le h (by decide)
theorem nFromInt_any(n)(w:World)(hlo:-9223372036854775808≤n)(hhi:n < 9223372036854775808):
  Calls Tryz.prog 109 #[.int .i64 n] w fun e w'=>∃v',e=.returned v'∧FNorm w' v' (decide (n < 0),n.natAbs,0)∧Bw w w':=by
 have hm:n.natAbs < W32 ^ 3:=lt_64 (by omega);have H1:=hid (fun W=>FracFromInt_any n W hlo hhi)
 have H2:Hid (∀(W:World) (v:Value),FNorm W v (decide (n < 0),n.natAbs,1)→Calls Tryz.prog 143 #[v] W fun e w'=>Bw W w'∧FRes w' e 0 (decide (n < 0),n.natAbs,0)):=by
  refine hid fun W v hv=>?_
  have h:=FracRat_open v _ W hv (lt_big hm (by omega)) (lt_big (a:=3) (show 1 < W32 ^ 3 by decide) (by omega));simp only at h;rw[big_small hm (by decide),if_neg (by decide),show den0 1=0 from rfl] at h;exact h
 clear hm hlo hhi;obtain⟨t,ht⟩:∃t,t=(decide (n < 0),n.natAbs,0):=⟨_,rfl⟩;rw[←ht] at H2 ⊢;clear ht;go_enter Tryz.func109,Tryz.ntmps109;go_upto_region 1 with fail;have hV0:=Var3.alloc w (x:=.bool false) (y:=.slice none 0 0) (z:=.slice none 0 0) 24 trivial trivial trivial;have hK0:=(Br w.heap.size w).alloc (Lr _) (.cells #[.bool false,.slice none 0 0,.slice none 0 0] 24);generalize w.alloc (.cells #[.bool false,.slice none 0 0,.slice none 0 0] 24)=W0 at *;go_wp2_with fail;refine(H1.out W0).mono ?_;rintro e w1 ⟨v1,rfl,hF1,hB1⟩;have hF1':FNorm w1 v1 (decide (n < 0),n.natAbs,1):=hF1;clear hF1;go_wp2_with fail;refine(H2.out w1 v1 hF1').mono ?_;rintro e w2 ⟨hB2,hR2⟩
 rcases hR2 with ⟨h0,_⟩ | ⟨_,sg,pa,ka,ca,pb,kb,cb,rfl,hF⟩
 ·exact absurd rfl h0
 ·have hal:=(Br w2.heap.size w2).alloc (Lr _) (.cells #[.bool sg,.slice pa ka ca,.slice pb kb cb] 24);have hVX:=Var3.alloc w2 (x:=.bool sg) (y:=.slice pa ka ca) (z:=.slice pb kb cb) 24 trivial trivial trivial;have hV2:=((hV0.below hB1).below hB2).below hal;have hK2:=(hK0.trans ((hB1.mono hK0.size).trans (hB2.mono (Nat.le_trans hK0.size hB1.size)))).trans (hal.mono (Nat.le_trans hK0.size (Nat.le_trans hB1.size hB2.size)));have HP:=hid (Ai (hF.out.below hal) (Ai hV2 hK2));clear hV0 hK0 hF1' hB1 hB2 hal hF hV2 hK2;go_upto_region 2 with fail;generalize w2.alloc (.cells #[.bool sg,.slice pa ka ca,.slice pb kb cb] 24)=W3 at *;generalize w2.heap.size=X at *;obtain⟨x0,x1,x2,_⟩:=id hVX.cells;obtain⟨y0,y1,y2,z0,z1,z2⟩:=HP.out.2.1.cells;clear hVX;go_wp2_with fail;exact nFromInt_ret rfl (HP.out.2.1.store trivial trivial trivial) ⟨_,rfl,HP.out.1.store3 HP.out.2.1 _ _ _,below_set3 HP.out.2.2 (Lr _)⟩
theorem lt_4m{x a:Nat}(h:x < W32 ^ a)(hab:a≤4000000):x < W32 ^ 4000000:=by
 generalize 4000000=b at *;exact Nat.lt_of_lt_of_le h (Nat.pow_le_pow_right W32_pos hab)
theorem large_bd{n d:Nat}(h:large n d=false):n / Nat.gcd n (den1 d) < W32 ^ 64∧den1 d / Nat.gcd n (den1 d) < W32 ^ 64:=by
 unfold large at h;rw[Bool.or_eq_false_iff] at h;have h2:=h.2;unfold big at h2;have:=of_decide_eq_false h2
 constructor<;>omega
def fmul (a b:Tq):Tq:=frac (a.1 != b.1) (a.2.1*b.2.1) (a.2.2*b.2.2)
def fneg (a:Tq):Tq:=(!a.1 && decide (a.2.1≠0),a.2.1,a.2.2)
theorem held6{N:Nat}{W0 W:World}{a b c d e f:Prop}(h:a∧b∧c∧d∧e∧f∧Hid (Below N W0 W)):Below N W0 W:=h.2.2.2.2.2.2.out
theorem FracMul_ret{W:World}{B:Nat}{x y z:Value}{tm:Array Value}{R:Ending→World→Prop}(h2:tm[4]?.getD undef=.pointer (some ⟨B,0,none⟩))(hV:Var3 W B x y z)(hR:R (.returned (.agg #[x,y,z])) W):
  bodyPost Tryz.prog Tryz.f91 R .ret {tmps:=tm,defers:=[]} W:=by
 obtain⟨c0,c1,c2,_,_,_⟩:=hV.cells;exact bodyPost_ret (v:=.agg #[x,y,z]) (by simp [results,Tryz.results91,go_sem,h2,c0,c1,c2]) rfl hR
theorem FracDiv_ret{W:World}{B:Nat}{x y z ev:Value}{tm:Array Value}{R:Ending→World→Prop}(h2:tm[4]?.getD undef=.pointer (some ⟨B,0,none⟩))(h3:tm[5]?.getD undef=ev)(hV:Var3 W B x y z)
  (hR:R (.returned (.tuple #[.agg #[x,y,z],ev])) W):bodyPost Tryz.prog Tryz.f138 R .ret {tmps:=tm,defers:=[]} W:=by
 obtain⟨c0,c1,c2,_,_,_⟩:=hV.cells;exact bodyPost_ret (v:=.tuple #[.agg #[x,y,z],ev]) (by simp [results,Tryz.results138,go_sem,h2,h3,c0,c1,c2]) rfl hR
theorem FracMul_any(va vb:Value)(s1:Bool)(n1 d1:Nat)(s2:Bool)(n2 d2:Nat)(w:World)(ha:FRep w va s1 n1 d1)(hb:FRep w vb s2 n2 d2)
  (hn1:n1 < W32 ^ 4000000)(hd1:d1 < W32 ^ 4000000)(hn2:n2 < W32 ^ 4000000)(hd2:d2 < W32 ^ 4000000)(h1:0 < d1)(h2:0 < d2)(ht:TabOk w):
  Calls Tryz.prog 91 #[va,vb] w fun e w'=>∃v',e=.returned v'∧FNorm w' v' (fmul (s1,n1,d1) (s2,n2,d2))∧Bw w w':=by
 obtain⟨vn1,vd1,rfl,hrn1,hrd1⟩:=ha;obtain⟨vn2,vd2,rfl,hrn2,hrd2⟩:=hb;have HR:=hid (Ai (Ai hrn1 hrd1) (Ai hrn2 hrd2));obtain⟨p1,k1,c1,rfl,_,_,_⟩:=hrn1;obtain⟨p2,k2,c2,rfl,_,_,_⟩:=hrd1;obtain⟨p3,k3,c3,rfl,_,_,_⟩:=hrn2;obtain⟨p4,k4,c4,rfl,_,_,_⟩:=hrd2;have HB:=hid (Ai (Ai (lt_big hn1 (by omega)) (lt_big hd1 (by omega))) (Ai (lt_big hn2 (by omega)) (lt_big hd2 (by omega))));have HX:=hid (Ai (lt_mul (c:=9000000) hn1 hn2 (by omega)) (lt_mul (c:=9000000) hd1 hd2 (by omega)));have hD0:0 < d1*d2:=Nat.mul_pos h1 h2;have HT:=hid (Ai ht hD0);clear hn1 hd1 hn2 hd2 h1 h2 ht hD0
 show Calls _ _ _ _ fun e w'=>∃v',e=.returned v'∧FNorm w' v' (frac (s1 != s2) (n1*n2) (d1*d2))∧Bw w w'
 go_enter Tryz.func91,Tryz.ntmps91;go_wp2_with fail;have hVa:Var3 (w.alloc (.cells #[.bool s1,.slice p1 k1 c1,.slice p2 k2 c2] 48)) w.heap.size (.bool s1) (.slice p1 k1 c1) (.slice p2 k2 c2):=Var3.alloc w 48 trivial trivial trivial;have hVb:=Var3.alloc2 w (.cells #[.bool s1,.slice p1 k1 c1,.slice p2 k2 c2] 48) (x:=.bool s2) (y:=.slice p3 k3 c3) (z:=.slice p4 k4 c4) 48 trivial trivial trivial;have hVr:=Var3.alloc3 w (.cells #[.bool s1,.slice p1 k1 c1,.slice p2 k2 c2] 48) (.cells #[.bool s2,.slice p3 k3 c3,.slice p4 k4 c4] 48) (x:=.bool false) (y:=.slice none 0 0) (z:=.slice none 0 0) 48 trivial trivial trivial;have hB0:=below_alloc3 w (.cells #[.bool s1,.slice p1 k1 c1,.slice p2 k2 c2] 48) (.cells #[.bool s2,.slice p3 k3 c3,.slice p4 k4 c4] 48) (.cells #[.bool false,.slice none 0 0,.slice none 0 0] 48);have hVa':=(hVa.below ((Br _ _).alloc (Lr _) (.cells #[.bool s2,.slice p3 k3 c3,.slice p4 k4 c4] 48))).below ((Br _ _).alloc (Lr _) (.cells #[.bool false,.slice none 0 0,.slice none 0 0] 48));have hVb':=hVb.below ((Br _ _).alloc (Lr _) (.cells #[.bool false,.slice none 0 0,.slice none 0 0] 48));clear hVa hVb;generalize hW0:((w.alloc (.cells #[.bool s1,.slice p1 k1 c1,.slice p2 k2 c2] 48)).alloc (.cells #[.bool s2,.slice p3 k3 c3,.slice p4 k4 c4] 48)).alloc (.cells #[.bool false,.slice none 0 0,.slice none 0 0] 48)=W0 at *;clear hW0
 have hn2:w.heap.size+1+1≤W0.heap.size:=by obtain⟨_,h0,_⟩:=hVr;exact Nat.le_of_lt (Array.getElem?_eq_some_iff.1 h0).1
 have HV:=hid (Ai hVr hB0)
 have HS:Hid (∀w',Below (w.heap.size+1+1) W0 w'→(w'.cell? ⟨w.heap.size,0,none⟩=some (.bool s1)∧w'.cell? ⟨w.heap.size,1,none⟩=some (.slice p1 k1 c1)∧w'.cell? ⟨w.heap.size,2,none⟩=some (.slice p2 k2 c2)∧w'.cell? ⟨w.heap.size+1,0,none⟩=some (.bool s2)∧w'.cell? ⟨w.heap.size+1,1,none⟩=some (.slice p3 k3 c3)∧w'.cell? ⟨w.heap.size+1,2,none⟩=some (.slice p4 k4 c4)∧Hid (Below (w.heap.size+1+1) W0 w'))):=
  hid fun w' hb=>⟨(bcellN hb _ _ (by omega)).trans hVa'.cells.1,(bcellN hb _ _ (by omega)).trans hVa'.cells.2.1,(bcellN hb _ _ (by omega)).trans hVa'.cells.2.2.1,(bcellN hb _ _ (by omega)).trans hVb'.cells.1,(bcellN hb _ _ (by omega)).trans hVb'.cells.2.1,(bcellN hb _ _ (by omega)).trans hVb'.cells.2.2.1,hid hb⟩
 have hMx:=hid (fun (W:World) (hW:Bw W0 W)=>Mul_any _ _ n1 n2 W ((HR.out.1.1.below hB0).below hW) ((HR.out.2.1.below hB0).below hW) HB.out.1.1 HB.out.2.1);have hMd:=hid (fun (W:World) (hW:Bw W0 W)=>Mul_any _ _ d1 d2 W ((HR.out.1.2.below hB0).below hW) ((HR.out.2.2.below hB0).below hW) HB.out.1.2 HB.out.2.2);have hNew:=hid (fun (W:World) (vN vD:Value) (hN:Rep W32 W vN (n1*n2)) (hD:Rep W32 W vD (d1*d2)) (hW:Bw W0 W)=>fopen (t:=frac (s1 != s2) (n1*n2) (d1*d2)) (New_any (s1 != s2) vN vD (n1*n2) (d1*d2) W hN hD (lt_20 HX.out.1 (by omega)) (lt_20 HX.out.2 (by omega)) HT.out.2 ((HT.out.1.below hB0).below hW)));clear hVa' hVb' hVr hB0
 go_region_held3 (fun w'=>w'.cell? ⟨w.heap.size,0,none⟩=some (.bool s1)∧w'.cell? ⟨w.heap.size,1,none⟩=some (.slice p1 k1 c1)∧w'.cell? ⟨w.heap.size,2,none⟩=some (.slice p2 k2 c2)∧w'.cell? ⟨w.heap.size+1,0,none⟩=some (.bool s2)∧w'.cell? ⟨w.heap.size+1,1,none⟩=some (.slice p3 k3 c3)∧w'.cell? ⟨w.heap.size+1,2,none⟩=some (.slice p4 k4 c4)∧Hid (Below (w.heap.size+1+1) W0 w'))
  (first | exact HS.out _ (Br _ _).drew | (exact HS.out _ (by assumption)) | exact HS.out _ (below_set3 (by assumption) (Lr _)))
  (first
   | (go_at_call_of 133 k1;(first | (refine(hMx.out _ (Br _ _).drew).mono ?_;rintro e wx ⟨vx,rfl,hRx,hBx⟩;have hKx:=held_any (Br W0.heap.size W0).drew hBx) | (refine(hMx.out _ hKd).mono ?_;rintro e wx ⟨vx,rfl,hRx,hBx⟩;have hKx:=held_any hKd hBx));have hKx2:=below_pre hKx hn2)
   | (go_at_call_of 133 k2;(first | (refine(hMd.out _ (Br _ _).drew).mono ?_;rintro e wd ⟨vd,rfl,hRd,hBd⟩;have hKd:=held_any (Br W0.heap.size W0).drew hBd) | (refine(hMd.out _ hKx).mono ?_;rintro e wd ⟨vd,rfl,hRd,hBd⟩;have hKd:=held_any hKx hBd));have hKd2:=below_pre hKd hn2)
   | (go_at_call 132;(first | (refine(hNew.out _ _ _ (hRx.below hBd) hRd hKd).mono ?_;rintro e wf ⟨sg,pa,ka,ca,pb,kb,cb,rfl,HF,hBf⟩;have hKf:=held_any hKd hBf) | (refine(hNew.out _ _ _ hRx (hRd.below hBx) hKx).mono ?_;rintro e wf ⟨sg,pa,ka,ca,pb,kb,cb,rfl,HF,hBf⟩;have hKf:=held_any hKx hBf));have hKf2:=below_pre hKf hn2;obtain⟨x0,x1,x2,y0,y1,y2⟩:=(HV.out.1.below hKf).cells))
 all_goals
  rename_i hHeld
  clear hHeld
  go_wp2_with fail
  exact FracMul_ret rfl ((HV.out.1.below hKf).store trivial trivial trivial) ⟨_,rfl,HF.out.store3 (HV.out.1.below hKf) _ _ _,below_set3 (HV.out.2.trans (hKf.mono HV.out.2.size)) (by show w.heap.size≤w.heap.size+1+1;omega)⟩
theorem FracDiv_any(va vb:Value)(s1:Bool)(n1 d1:Nat)(s2:Bool)(n2 d2:Nat)(w:World)(ha:FRep w va s1 n1 d1)(hb:FRep w vb s2 n2 d2)
  (hn1:n1 < W32 ^ 4000000)(hd1:d1 < W32 ^ 4000000)(hn2:n2 < W32 ^ 4000000)(hd2:d2 < W32 ^ 4000000)(h1:0 < d1)(h2:n2=0→s2=false)(ht:TabOk w):
  Calls Tryz.prog 138 #[va,vb] w fun e w'=>Bw w w'∧FRes w' e (if n2=0 then 10 else 0) (fmul (s1,n1,d1) (s2,d2,n2)):=by
 have HA:=hid ha;have HBb:=hid hb;obtain⟨vn1,vd1,rfl,⟨p1,k1,c1,rfl,_⟩,⟨p2,k2,c2,rfl,_⟩⟩:=ha;obtain⟨vn2,vd2,rfl,⟨p3,k3,c3,rfl,_⟩,⟨p4,k4,c4,rfl,_⟩⟩:=hb;have HSg:=hid (fun (W:World) (hW:Bw w W)=>Sign_any (.agg #[.bool s2,.slice p3 k3 c3,.slice p4 k4 c4]) s2 n2 d2 W (HBb.out.below hW))
 have HM:=hid (fun (W:World) (h0:n2≠0) (hW:Bw w W)=>fopen (t:=fmul (s1,n1,d1) (s2,d2,n2)) (FracMul_any (.agg #[.bool s1,.slice p1 k1 c1,.slice p2 k2 c2]) (.agg #[.bool s2,.slice p4 k4 c4,.slice p3 k3 c3]) s1 n1 d1 s2 d2 n2 W (HA.out.below hW)
  (by obtain⟨vn,vd,hv,ha,hb⟩:=HBb.out.below hW;injection hv with hv;have e1:=congrArg (fun a=>a[1]?) hv;have e2:=congrArg (fun a=>a[2]?) hv;simp only[List.getElem?_toArray,List.getElem?_cons_succ,List.getElem?_cons_zero,Option.some.injEq] at e1 e2;subst e1 e2;exact⟨_,_,rfl,hb,ha⟩) hn1 hd1 hd2 hn2 h1 (by omega) (ht.below hW)))
 clear hn1 hd1 hn2 hd2 h1 ht;obtain⟨t,htt⟩:∃t,t=fmul (s1,n1,d1) (s2,d2,n2):=⟨_,rfl⟩;rw[←htt] at HM ⊢;clear htt
 obtain⟨cc,hcc⟩:∃cc:Int,cc=if n2=0 then 10 else 0:=⟨_,rfl⟩
 rw[←hcc];have HCC:=hid hcc;clear hcc;go_enter Tryz.func138,Tryz.ntmps138;go_upto_region 1 with fail;have hVa:Var3 (w.alloc (.cells #[.bool s1,.slice p1 k1 c1,.slice p2 k2 c2] 48)) w.heap.size (.bool s1) (.slice p1 k1 c1) (.slice p2 k2 c2):=Var3.alloc w 48 trivial trivial trivial;have hVb:=Var3.alloc2 w (.cells #[.bool s1,.slice p1 k1 c1,.slice p2 k2 c2] 48) (x:=.bool s2) (y:=.slice p3 k3 c3) (z:=.slice p4 k4 c4) 48 trivial trivial trivial;have hVr:=Var3.alloc3 w (.cells #[.bool s1,.slice p1 k1 c1,.slice p2 k2 c2] 48) (.cells #[.bool s2,.slice p3 k3 c3,.slice p4 k4 c4] 48) (x:=.bool false) (y:=.slice none 0 0) (z:=.slice none 0 0) 48 trivial trivial trivial;have hB0:=below_alloc3 w (.cells #[.bool s1,.slice p1 k1 c1,.slice p2 k2 c2] 48) (.cells #[.bool s2,.slice p3 k3 c3,.slice p4 k4 c4] 48) (.cells #[.bool false,.slice none 0 0,.slice none 0 0] 48);have hVa':=(hVa.below ((Br _ _).alloc (Lr _) (.cells #[.bool s2,.slice p3 k3 c3,.slice p4 k4 c4] 48))).below ((Br _ _).alloc (Lr _) (.cells #[.bool false,.slice none 0 0,.slice none 0 0] 48));have hVb':=hVb.below ((Br _ _).alloc (Lr _) (.cells #[.bool false,.slice none 0 0,.slice none 0 0] 48));clear hVa hVb;generalize hW0:((w.alloc (.cells #[.bool s1,.slice p1 k1 c1,.slice p2 k2 c2] 48)).alloc (.cells #[.bool s2,.slice p3 k3 c3,.slice p4 k4 c4] 48)).alloc (.cells #[.bool false,.slice none 0 0,.slice none 0 0] 48)=W0 at *;clear hW0;have HV:=hid (Ai hVa' (Ai hVb' (Ai hVr hB0)));clear hVa' hVb' hVr hB0;obtain⟨a0,a1,a2,_⟩:=HV.out.2.1.cells;go_wp2_with fail;refine(HSg.out _ HV.out.2.2.2).mono ?_;rintro e w1 ⟨rfl,hB1⟩;clear a0 a1 a2 HSg;obtain⟨a0,a1,a2,_⟩:=(HV.out.1.below hB1).cells;obtain⟨b0,b1,b2,_⟩:=(HV.out.2.1.below hB1).cells;obtain⟨r0,r1,r2,r3,r4,r5⟩:=(HV.out.2.2.1.below hB1).cells;have HR:=hid (Ai (HV.out.2.2.1.below hB1) (HV.out.2.2.2.trans (hB1.mono HV.out.2.2.2.size)));clear HV hB1
 have hle:w.heap.size≤w.heap.size+1+1:=by omega
 by_cases h0:n2=0
 ·obtain rfl:=h2 h0;subst h0;have hcc:=HCC.out;rw[if_pos rfl] at hcc;subst hcc;clear HCC;rw[show sgn false 0=0 from rfl];clear HM;go_wp2_with fail;exact FracDiv_ret rfl rfl (HR.out.1.store trivial trivial trivial) ⟨below_set3 HR.out.2 hle,.inl ⟨by decide,rfl⟩⟩
 ·have hs:(sgn s2 n2 == 0)=false:=by unfold sgn;cases s2<;>simp [h0]
  obtain⟨sg2,hsg2⟩:∃sg2,sg2=sgn s2 n2:=⟨_,rfl⟩;rw[←hsg2] at hs ⊢;clear hsg2;have hcc:=HCC.out;rw[if_neg h0] at hcc;subst hcc;clear HCC;have HM1:=hid (HM.out w1 h0 HR.out.2);clear HM h2 h0;go_wp2_with fail;refine HM1.out.mono ?_;rintro e wf ⟨sg,pa,ka,ca,pb,kb,cb,rfl,HF,hBf⟩;have hRf:=HR.out.1.below hBf;obtain⟨x0,x1,x2,y0,y1,y2⟩:=id hRf.cells;have HR2:=hid (Ai hRf (HR.out.2.trans (hBf.mono HR.out.2.size)));clear hRf hBf HM1;go_wp2_with fail;exact FracDiv_ret rfl rfl (HR2.out.1.store trivial trivial trivial) ⟨below_set3 HR2.out.2 hle,.inr ⟨rfl,_,_,_,_,_,_,_,rfl,hid (HF.out.store3 HR2.out.1 _ _ _)⟩⟩
def cmpI (a b:Int):Int:=if a < b then -1 else if b < a then 1 else 0
theorem cmpI_any(a b)(w:World):
  Calls Tryz.prog 134 #[.int .i64 a,.int .i64 b] w fun e w'=>e=.returned (.int .i64 (cmpI a b))∧w=w':=by
 rcases Int.lt_trichotomy a b with h | h | h
 ·rw[show cmpI a b=-1 from if_pos h];go_enter Tryz.func134,Tryz.ntmps134
  go_wp2
  go_ret
  exact⟨rfl,rfl⟩
 ·subst h;rw[show cmpI a a=0 by unfold cmpI;rw[if_neg (Int.lt_irrefl _)];rw[if_neg (Int.lt_irrefl _)]];go_enter Tryz.func134,Tryz.ntmps134
  go_wp2
  go_ret
  exact⟨rfl,rfl⟩
 ·rw[show cmpI a b=1 by unfold cmpI;rw[if_neg (by omega),if_pos h]];go_enter Tryz.func134,Tryz.ntmps134
  go_wp2
  go_ret
  exact⟨rfl,rfl⟩
def sv (s:Bool) (n:Nat):Int:=if s then -(n:Int) else n
def fcmp (a b:Tq):Int:=cmpI (sv a.1 a.2.1*b.2.2) (sv b.1 b.2.1*a.2.2)
theorem fcmp_eq(s1:Bool)(n1 d1:Nat)(s2:Bool)(n2 d2:Nat)(h1:0 < d1)(h2:0 < d2)(k1:n1=0→s1=false)(k2:n2=0→s2=false):
  fcmp (s1,n1,d1) (s2,n2,d2)=if sgn s1 n1=sgn s2 n2 then cmp3 (n1*d2) (n2*d1)*(if s1 then -1 else 1) else cmpI (sgn s1 n1) (sgn s2 n2):=by
 have e1:sv s1 n1*(d2:Int)=sv s1 (n1*d2):=by unfold sv;cases s1<;>simp [Int.neg_mul]
 have e2:sv s2 n2*(d1:Int)=sv s2 (n2*d1):=by unfold sv;cases s2<;>simp [Int.neg_mul]
 unfold fcmp;simp only;rw[e1,e2]
 have z1:n1*d2=0↔n1=0:=by rw[Nat.mul_eq_zero];omega
 have z2:n2*d1=0↔n2=0:=by rw[Nat.mul_eq_zero];omega
 clear e1 e2;generalize n1*d2=X at *;generalize n2*d1=Y at *;unfold cmpI cmp3 sv sgn
 by_cases a1:n1=0
 ·have b1:=k1 a1;have c1:=z1.2 a1;subst b1 c1
  by_cases a2:n2=0
  ·have b2:=k2 a2;have c2:=z2.2 a2;subst b2 c2;simp [a1,a2]
  ·have c2:Y≠0:=fun h=>a2 (z2.1 h)
   cases s2<;>simp [a1,a2]<;>first | omega | (split<;>omega)
 ·have c1:X≠0:=fun h=>a1 (z1.1 h)
  by_cases a2:n2=0
  ·have b2:=k2 a2;have c2:=z2.2 a2;subst b2 c2
   cases s1<;>simp [a1,a2]<;>first | omega | (split<;>omega)
  ·have c2:Y≠0:=fun h=>a2 (z2.1 h)
   cases s1<;>cases s2<;>simp [a1,a2]<;>first | omega | (split<;>first | omega | (split<;>omega))
theorem FracCompare_any(va vb:Value)(s1:Bool)(n1 d1:Nat)(s2:Bool)(n2 d2:Nat)(w:World)(ha:FRep w va s1 n1 d1)(hb:FRep w vb s2 n2 d2)
  (hn1:n1 < W32 ^ 4000000)(hd1:d1 < W32 ^ 4000000)(hn2:n2 < W32 ^ 4000000)(hd2:d2 < W32 ^ 4000000)(h1:0 < d1)(h2:0 < d2)(k1':n1=0→s1=false)(k2':n2=0→s2=false):
  Calls Tryz.prog 135 #[va,vb] w fun e w'=>e=.returned (.int .i64 (fcmp (s1,n1,d1) (s2,n2,d2)))∧Bw w w':=by
 rw[fcmp_eq s1 n1 d1 s2 n2 d2 h1 h2 k1' k2'];clear h1 h2 k1' k2';have HA:=hid ha;have HBb:=hid hb;obtain⟨vn1,vd1,rfl,hrn1,hrd1⟩:=ha;obtain⟨vn2,vd2,rfl,hrn2,hrd2⟩:=hb;have HR:=hid (Ai (Ai hrn1 hrd1) (Ai hrn2 hrd2));obtain⟨p1,k1,c1,rfl,_,_,_⟩:=hrn1;obtain⟨p2,k2,c2,rfl,_,_,_⟩:=hrd1;obtain⟨p3,k3,c3,rfl,_,_,_⟩:=hrn2;obtain⟨p4,k4,c4,rfl,_,_,_⟩:=hrd2;have HB:=hid (Ai (Ai (lt_big hn1 (by omega)) (lt_big hd1 (by omega))) (Ai (lt_big hn2 (by omega)) (lt_big hd2 (by omega))));have HX:=hid (Ai (lt_big (lt_mul (c:=9000000) hn1 hd2 (by omega)) (by omega)) (lt_big (lt_mul (c:=9000000) hn2 hd1 (by omega)) (by omega)));clear hn1 hd1 hn2 hd2;have HS1:=hid (fun (W:World) (hW:Bw w W)=>Sign_any (.agg #[.bool s1,.slice p1 k1 c1,.slice p2 k2 c2]) s1 n1 d1 W (HA.out.below hW));have HS2:=hid (fun (W:World) (hW:Bw w W)=>Sign_any (.agg #[.bool s2,.slice p3 k3 c3,.slice p4 k4 c4]) s2 n2 d2 W (HBb.out.below hW));have HSe:=hid (fun (W:World) (hW:Bw w W)=>sense_any (.agg #[.bool s1,.slice p1 k1 c1,.slice p2 k2 c2]) s1 n1 d1 W (HA.out.below hW));have hMx:=hid (fun (W:World) (hW:Bw w W)=>Mul_any _ _ n1 d2 W (HR.out.1.1.below hW) (HR.out.2.2.below hW) HB.out.1.1 HB.out.2.2);have hMy:=hid (fun (W:World) (hW:Bw w W)=>Mul_any _ _ n2 d1 W (HR.out.2.1.below hW) (HR.out.1.2.below hW) HB.out.2.1 HB.out.1.2);have hC:=hid (fun (W:World) (vx vy:Value) hx hy=>Compare_any vx vy (n1*d2) (n2*d1) W hx hy HX.out.1 HX.out.2);clear HR HB HX HA HBb;obtain⟨X,hX⟩:∃X,X=n1*d2:=⟨_,rfl⟩;obtain⟨Y,hY⟩:∃Y,Y=n2*d1:=⟨_,rfl⟩;obtain⟨g1,hg1⟩:∃g1,g1=sgn s1 n1:=⟨_,rfl⟩;obtain⟨g2,hg2⟩:∃g2,g2=sgn s2 n2:=⟨_,rfl⟩
 obtain⟨m,hm⟩:∃m:Int,m=if s1=true then -1 else 1:=⟨_,rfl⟩
 obtain⟨r,hr⟩:∃r,r=cmp3 (n1*d2) (n2*d1):=⟨_,rfl⟩
 have hwr:IntKind.i64.wrap (r*m)=r*m:=by
  have h1:r=-1∨r=0∨r=1:=by rw[hr];unfold cmp3;split<;>(try split)<;>simp
  have h2:m=-1∨m=1:=by rw[hm];split<;>simp
  rcases h1 with rfl | rfl | rfl<;>rcases h2 with rfl | rfl<;>decide
 rw[←hr,←hm,←hg1,←hg2];rw[←hr,←hX,←hY] at hC;rw[←hg1] at HS1;rw[←hg2] at HS2;rw[←hm] at HSe;rw[←hX] at hMx;rw[←hY] at hMy;clear hr hm hg1 hg2 hX hY
 obtain⟨R,hR⟩:∃R:Int,R=if g1=g2 then r*m else cmpI g1 g2:=⟨_,rfl⟩
 rw[←hR];have HR:=hid hR;clear hR;go_enter Tryz.func135,Tryz.ntmps135;go_upto_region 1 with fail;have hVa:=(Var3.alloc w (x:=.bool s1) (y:=.slice p1 k1 c1) (z:=.slice p2 k2 c2) 48 trivial trivial trivial).below ((Br _ _).alloc (Lr _) (.cells #[.bool s2,.slice p3 k3 c3,.slice p4 k4 c4] 48));have hVb:=Var3.alloc2 w (.cells #[.bool s1,.slice p1 k1 c1,.slice p2 k2 c2] 48) (x:=.bool s2) (y:=.slice p3 k3 c3) (z:=.slice p4 k4 c4) 48 trivial trivial trivial;have hB0:=below_alloc2 w (.cells #[.bool s1,.slice p1 k1 c1,.slice p2 k2 c2] 48) (.cells #[.bool s2,.slice p3 k3 c3,.slice p4 k4 c4] 48);generalize(w.alloc (.cells #[.bool s1,.slice p1 k1 c1,.slice p2 k2 c2] 48)).alloc (.cells #[.bool s2,.slice p3 k3 c3,.slice p4 k4 c4] 48)=W0 at *
 have HS:Hid (∀w',Bw W0 w'→(w'.cell? ⟨w.heap.size,0,none⟩=some (.bool s1)∧w'.cell? ⟨w.heap.size,1,none⟩=some (.slice p1 k1 c1)∧w'.cell? ⟨w.heap.size,2,none⟩=some (.slice p2 k2 c2)∧w'.cell? ⟨w.heap.size+1,0,none⟩=some (.bool s2)∧w'.cell? ⟨w.heap.size+1,1,none⟩=some (.slice p3 k3 c3)∧w'.cell? ⟨w.heap.size+1,2,none⟩=some (.slice p4 k4 c4)∧Hid (Bw W0 w'))):=
  hid fun w' hb=>⟨(hVa.below hb).cells.1,(hVa.below hb).cells.2.1,(hVa.below hb).cells.2.2.1,(hVb.below hb).cells.1,(hVb.below hb).cells.2.1,(hVb.below hb).cells.2.2.1,hid hb⟩
 have HB0:=hid hB0;clear hVa hVb hB0
 go_region_held3 (fun w'=>w'.cell? ⟨w.heap.size,0,none⟩=some (.bool s1)∧w'.cell? ⟨w.heap.size,1,none⟩=some (.slice p1 k1 c1)∧w'.cell? ⟨w.heap.size,2,none⟩=some (.slice p2 k2 c2)∧w'.cell? ⟨w.heap.size+1,0,none⟩=some (.bool s2)∧w'.cell? ⟨w.heap.size+1,1,none⟩=some (.slice p3 k3 c3)∧w'.cell? ⟨w.heap.size+1,2,none⟩=some (.slice p4 k4 c4)∧Hid (Bw W0 w'))
  (first | exact HS.out _ (Br _ _).drew | (exact HS.out _ (by assumption)))
  (first
   | (go_at_call_of 89 k1;refine(HS1.out _ (HB0.out.trans ((held6 (N:=W0.heap.size) (W0:=W0) (by assumption)).mono HB0.out.size))).mono ?_;rintro e wa ⟨rfl,hBa⟩;have hKa:=held_any (held6 (N:=W0.heap.size) (W0:=W0) (by assumption)) hBa)
   | (go_at_call_of 89 k3;refine(HS2.out _ (HB0.out.trans ((held6 (N:=W0.heap.size) (W0:=W0) (by assumption)).mono HB0.out.size))).mono ?_;rintro e wb ⟨rfl,hBb⟩;have hKb:=held_any (held6 (N:=W0.heap.size) (W0:=W0) (by assumption)) hBb))
 rename_i hHeld
 clear hHeld hKa hBa hBb
 by_cases hg:g1=g2
 ·have hgf:(g1 == g2)=true:=by simp [hg]
  have hR:=HR.out;rw[if_pos hg] at hR;subst hR;clear hg HR;go_wp2_with fail
  go_region_held3 (fun w'=>w'.cell? ⟨w.heap.size,0,none⟩=some (.bool s1)∧w'.cell? ⟨w.heap.size,1,none⟩=some (.slice p1 k1 c1)∧w'.cell? ⟨w.heap.size,2,none⟩=some (.slice p2 k2 c2)∧w'.cell? ⟨w.heap.size+1,0,none⟩=some (.bool s2)∧w'.cell? ⟨w.heap.size+1,1,none⟩=some (.slice p3 k3 c3)∧w'.cell? ⟨w.heap.size+1,2,none⟩=some (.slice p4 k4 c4)∧Hid (Bw W0 w'))
   (first | exact HS.out _ hKb.drew | (exact HS.out _ (by assumption)))
   (first
    | (go_at_call_of 133 k1;refine(hMx.out _ (HB0.out.trans ((held6 (N:=W0.heap.size) (W0:=W0) (by assumption)).mono HB0.out.size))).mono ?_;rintro e wx ⟨vx,rfl,hRx,hBx⟩;have hKx:=held_any (held6 (N:=W0.heap.size) (W0:=W0) (by assumption)) hBx)
    | (go_at_call_of 133 k3;refine(hMy.out _ (HB0.out.trans ((held6 (N:=W0.heap.size) (W0:=W0) (by assumption)).mono HB0.out.size))).mono ?_;rintro e wy ⟨vy,rfl,hRy,hBy⟩;have hKy:=held_any (held6 (N:=W0.heap.size) (W0:=W0) (by assumption)) hBy)
    | (go_at_call 158;refine(hC.out _ vx vy (hRx.below hBy) hRy).mono ?_;rintro e wc ⟨rfl,q,rfl⟩;have hKc:=below_drewN (held6 (N:=W0.heap.size) (W0:=W0) (by assumption)) q)
    | (go_at_call 159;refine(HSe.out _ (HB0.out.trans ((held6 (N:=W0.heap.size) (W0:=W0) (by assumption)).mono HB0.out.size))).mono ?_;rintro e ws ⟨rfl,hBs⟩;have hKs:=held_any (held6 (N:=W0.heap.size) (W0:=W0) (by assumption)) hBs))
  all_goals
   rename_i hHeld
   have HZ:=hid (held6 (N:=W0.heap.size) (W0:=W0) hHeld)
   clear hHeld
   go_wp2_with fail
   go_ret
   exact⟨rfl,HB0.out.trans (HZ.out.mono HB0.out.size)⟩
 ·have hgf:(g1 == g2)=false:=by simp [hg]
  have hCI:=hid (fun W=>cmpI_any g1 g2 W);have hR:=HR.out;rw[if_neg hg] at hR;rw[←hR] at hCI;clear hg HR hR;go_wp2_with fail
  go_region_held3 (fun w'=>w'.cell? ⟨w.heap.size,0,none⟩=some (.bool s1)∧w'.cell? ⟨w.heap.size,1,none⟩=some (.slice p1 k1 c1)∧w'.cell? ⟨w.heap.size,2,none⟩=some (.slice p2 k2 c2)∧w'.cell? ⟨w.heap.size+1,0,none⟩=some (.bool s2)∧w'.cell? ⟨w.heap.size+1,1,none⟩=some (.slice p3 k3 c3)∧w'.cell? ⟨w.heap.size+1,2,none⟩=some (.slice p4 k4 c4)∧Hid (Bw W0 w'))
   (first | exact HS.out _ hKb.drew | (exact HS.out _ (by assumption)))
   (first
    | (go_at_call_of 89 k1;refine(HS1.out _ (HB0.out.trans ((held6 (N:=W0.heap.size) (W0:=W0) (by assumption)).mono HB0.out.size))).mono ?_;rintro e wx ⟨rfl,hBx⟩;have hKx:=held_any (held6 (N:=W0.heap.size) (W0:=W0) (by assumption)) hBx)
    | (go_at_call_of 89 k3;refine(HS2.out _ (HB0.out.trans ((held6 (N:=W0.heap.size) (W0:=W0) (by assumption)).mono HB0.out.size))).mono ?_;rintro e wy ⟨rfl,hBy⟩;have hKy:=held_any (held6 (N:=W0.heap.size) (W0:=W0) (by assumption)) hBy)
    | (go_at_call 134;refine(hCI.out _).mono ?_;rintro e wz ⟨rfl,rfl⟩))
  all_goals
   rename_i hHeld
   have HZ:=hid (held6 (N:=W0.heap.size) (W0:=W0) hHeld)
   clear hHeld
   go_wp2_with fail
   go_ret
   exact⟨rfl,HB0.out.trans (HZ.out.mono HB0.out.size)⟩
def fsub (a b:Tq):Tq:=fadd a (fneg b)
theorem frac_zero_sign{s:Bool}{n d:Nat}(_hd:0 < d)(h:(frac s n d).2.1=0):(frac s n d).1=false:=by
 unfold frac at h ⊢;simp only at h ⊢;have hg:Nat.gcd n d ∣ n:=Nat.gcd_dvd_left n d
 have h0:n=0:=by
  have:=Nat.div_mul_cancel hg;rw[h,Nat.zero_mul] at this;exact this.symm
 subst h0;simp
end Go.Proofs.YteblinkehldghaaGreatDoor
