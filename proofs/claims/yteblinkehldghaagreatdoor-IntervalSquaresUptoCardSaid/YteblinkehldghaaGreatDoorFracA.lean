/- Fractions of the program. -/
import Derived.Test.YteblinkehldghaaGreatDoorNatW
import Derived.Deep.RegionWith
import Derived.Deep.RegionHeld3
import Derived.Deep.Cut
set_option maxHeartbeats 2000000
set_option maxRecDepth 100000
namespace Go.Proofs.YteblinkehldghaaGreatDoor
open Go.RowKit Dg
open And renaming intro→Ai
open Nat renaming le_refl→Lr
open Go.RowKit.Below renaming refl→Br
def FRep (w:World) (v:Value) (s:Bool) (n d:Nat):Prop:=∃vn vd,v=.agg #[.bool s,vn,vd]∧Rep W32 w vn n∧Rep W32 w vd d
theorem FRep.below{w w':World}{v:Value}{s:Bool}{n d:Nat}(h:FRep w v s n d)(hb:Bw w w'):FRep w' v s n d:=by
 obtain⟨vn,vd,hv,h1,h2⟩:=h;exact⟨vn,vd,hv,h1.below hb,h2.below hb⟩
def NotInt:Value→Prop | .int _ _=>False | _=>True
def Var3 (w:World) (B:Nat) (x y z:Value):Prop:=∃t,w.heap[B]?=some (.cells #[x,y,z] t (0,0))∧NotInt x∧NotInt y∧NotInt z
theorem Var3.below{w w':World}{B:Nat}{x y z:Value}(h:Var3 w B x y z)(hb:Bw w w'):Var3 w' B x y z:=by
 obtain⟨t,h0,h1⟩:=h;exact⟨t,by rw[hb.block _ (Array.getElem?_eq_some_iff.1 h0).1];exact h0,h1⟩
theorem Var3.alloc(w:World){x y z:Value}(t:Nat)(hx:NotInt x)(hy:NotInt y)(hz:NotInt z):Var3 (w.alloc (.cells #[x,y,z] t)) w.heap.size x y z:=
 ⟨t,heap_alloc_new w _,hx,hy,hz⟩
theorem Var3.cells{w:World}{B:Nat}{x y z:Value}(h:Var3 w B x y z):w.cell? ⟨B,0,none⟩=some x∧w.cell? ⟨B,1,none⟩=some y∧w.cell? ⟨B,2,none⟩=some z∧w.frozen? ⟨B,0,none⟩=false∧w.frozen? ⟨B,1,none⟩=false∧w.frozen? ⟨B,2,none⟩=false:=by
 obtain⟨t,h0,_⟩:=h;simp [World.cell?,World.frozen?,h0]
theorem Var3.store{w:World}{B:Nat}{a b c x y z:Value}(h:Var3 w B a b c)(hx:NotInt x)(hy:NotInt y)(hz:NotInt z):Var3 (((w.setCell ⟨B,0,none⟩ x).setCell ⟨B,1,none⟩ y).setCell ⟨B,2,none⟩ z) B x y z:=by
 obtain⟨t,h0,_⟩:=h;refine⟨t,?_,hx,hy,hz⟩;have h1:=heap_setCell_same w B 0 _ t x h0;have h2:=heap_setCell_same _ B 1 _ t y h1;have h3:=heap_setCell_same _ B 2 _ t z h2;exact h3
theorem Rep.store3{D:Nat}{w:World}{B:Nat}{a b c:Value}{v:Value}{n:Nat}(h:Rep D w v n)(hV:Var3 w B a b c)(x y z:Value):Rep D (((w.setCell ⟨B,0,none⟩ x).setCell ⟨B,1,none⟩ y).setCell ⟨B,2,none⟩ z) v n:=by
 obtain⟨p,k,cap,hv,hk,hl,hs⟩:=h;refine⟨p,k,cap,hv,hk,hl,fun h0=>?_⟩;obtain⟨bb,off,hp,hc⟩:=hs h0;obtain⟨t,h1,na,nb,nc⟩:=hV
 have hne:bb≠B:=by
  rintro rfl;have hc0:=hc 0 h0;rw[Nat.add_zero] at hc0;simp only[World.cell?,h1] at hc0
  rcases off with _ | _ | _ | off
  ·simp at hc0;subst hc0;exact na
  ·simp at hc0;subst hc0;exact nb
  ·simp at hc0;subst hc0;exact nc
  ·simp at hc0
 refine⟨bb,off,hp,fun j hj=>?_⟩;rw[World.cell?_of_block (w:=w) (a:=⟨bb,off+j,none⟩)]
 ·exact hc j hj
 ·show(((w.setCell ⟨B,0,none⟩ x).setCell ⟨B,1,none⟩ y).setCell ⟨B,2,none⟩ z).heap[bb]?=_;rw[Below.heap_setCell _ _ _ _ hne,Below.heap_setCell _ _ _ _ hne,Below.heap_setCell _ _ _ _ hne]
theorem sign_true{n g:Nat}(hg:g ∣ n):(!decide (n / g=0))=(true && decide (n≠0)):=by
 obtain⟨k,rfl⟩:=hg
 rcases Nat.eq_zero_or_pos g with h | h
 ·subst h;simp
 ·rw[Nat.mul_div_cancel_left _ h]
  by_cases hk:k=0
  ·subst hk;simp
  ·have:g*k≠0:=Nat.mul_ne_zero (by omega) hk;simp [hk,this]
theorem New_ret{W:World}{B:Nat}{x y z:Value}{tm:Array Value}{R:Ending→World→Prop}(h6:tm[6]?.getD undef=.pointer (some ⟨B,0,none⟩))(hV:Var3 W B x y z)(hR:R (.returned (.agg #[x,y,z])) W):
  bodyPost Tryz.prog Tryz.f132 R .ret {tmps:=tm,defers:=[]} W:=by
 obtain⟨c0,c1,c2,_,_,_⟩:=hV.cells;exact bodyPost_ret (v:=.agg #[x,y,z]) (by simp [results,Tryz.results132,go_sem,h6,c0,c1,c2]) rfl hR
theorem below_store3{w W:World}(h:Bw w W)(x y z:Value):Bw w (((W.setCell ⟨w.heap.size,0,none⟩ x).setCell ⟨w.heap.size,1,none⟩ y).setCell ⟨w.heap.size,2,none⟩ z):=
 ((h.setCell (Lr _) _).setCell (Lr _) _).setCell (Lr _) _
theorem New_any(s)(vn vd:Value)(n d:Nat)(w:World)(hn:Rep W32 w vn n)(hd:Rep W32 w vd d)(hnB:n < W32 ^ 20000000)(hdB:d < W32 ^ 20000000)(hd0:0 < d)(ht:TabOk w):
  Calls Tryz.prog 132 #[.bool s,vn,vd] w fun e w'=>∃v,e=.returned v∧FRep w' v (s && decide (n≠0)) (n / Nat.gcd n d) (d / Nat.gcd n d)∧Bw w w':=by
 cases s
 all_goals
  go_enter Tryz.func132,Tryz.ntmps132
  go_wp2_with fail
  have hV0:=Var3.alloc w (x:=.bool false) (y:=.slice none 0 0) (z:=.slice none 0 0) 48 trivial trivial trivial
  have hB0:Bw w (w.alloc (.cells #[.bool false,.slice none 0 0,.slice none 0 0] 48)):=(Br _ _).alloc (Lr _) _
  generalize hw0:w.alloc (.cells #[.bool false,.slice none 0 0,.slice none 0 0] 48)=w0 at *
  refine(Gcd_any vn vd n d w0 (hn.below hB0) (hd.below hB0) hnB hdB (ht.below hB0)).mono ?_
  rintro e w1 ⟨vg,rfl,hRg,hB1⟩
  obtain⟨G,hG⟩:∃G,G=Nat.gcd n d:=⟨_,rfl⟩
  have hG0:0 < Nat.gcd n d:=Nat.gcd_pos_of_pos_right _ hd0
  have hGn:=Nat.gcd_dvd_left n d
  have hone:=IsOne_any vg (Nat.gcd n d) w1 hRg
  have HH:=hid (Ai ((hn.below hB0).below hB1) (Ai ((hd.below hB0).below hB1) (Ai hRg (Ai (hV0.below hB1) (Ai (hB0.trans (hB1.mono hB0.size)) (Ai ((ht.below hB0).below hB1) (Ai hG0 hGn)))))))
  have HL:=hid (Ai hnB (Ai hdB hd0))
  clear hn hd hnB hdB hd0 ht hV0 hB0 hw0 hRg hB1 hG0 hGn hG
  by_cases h1:Nat.gcd n d=1
  case' pos=>
   rw[decide_eq_true h1] at hone
   have HP:Hid (Rep W32 w1 vn (n / Nat.gcd n d)∧Rep W32 w1 vd (d / Nat.gcd n d)∧Var3 w1 w.heap.size (.bool false) (.slice none 0 0) (.slice none 0 0)∧Bw w w1):=
    hid ⟨by rw[h1,Nat.div_one];exact HH.out.1,by rw[h1,Nat.div_one];exact HH.out.2.1,HH.out.2.2.2.1,HH.out.2.2.2.2.1⟩
   have Hz:=hid (Ai HH.out.2.2.2.2.2.2.1 HH.out.2.2.2.2.2.2.2);clear h1 HH;go_wp2_with fail;refine hone.mono ?_;rintro e w' ⟨rfl,rfl⟩;clear hone;obtain⟨c0,c1,c2,f0,f1,f2⟩:=HP.out.2.2.1.cells;have hz:=IsZero_any _ _ _ HP.out.1;obtain⟨Zb,hZb⟩:∃Zb,Zb=decide (n / Nat.gcd n d=0):=⟨_,rfl⟩;rw[←hZb] at hz;have HZ:=hid hZb;clear hZb;obtain⟨p1,n1,k1,rfl,_,_,_⟩:=HP.out.1;obtain⟨p2,n2,k2,rfl,_,_,_⟩:=HP.out.2.1;go_wp2_with fail
  case' neg=>
   rw[decide_eq_false h1] at hone;clear h1;go_wp2_with fail;refine hone.mono ?_;rintro e w' ⟨rfl,rfl⟩;clear hone;go_wp2_with fail;have hGB:Nat.gcd n d < W32 ^ 900000000:=Nat.lt_of_le_of_lt (Nat.le_of_dvd HL.out.2.2 (Nat.gcd_dvd_right n d)) (lt_9 HL.out.2.1 (by omega));refine(Div_any vn vg n (Nat.gcd n d) w1 HH.out.1 HH.out.2.2.1 (lt_9 HL.out.1 (by omega)) hGB HH.out.2.2.2.2.2.2.1 HH.out.2.2.2.2.2.1).mono ?_;rintro e w2 ⟨q1,r1,rfl,hR1,_,hB1⟩;have H1:=hid (Ai hR1 hB1);clear hR1 hB1 hGB;go_wp2_with fail;have hGB:Nat.gcd n d < W32 ^ 900000000:=Nat.lt_of_le_of_lt (Nat.le_of_dvd HL.out.2.2 (Nat.gcd_dvd_right n d)) (lt_9 HL.out.2.1 (by omega));refine(Div_any vd vg d (Nat.gcd n d) w2 (HH.out.2.1.below H1.out.2) (HH.out.2.2.1.below H1.out.2) (lt_9 HL.out.2.1 (by omega)) hGB HH.out.2.2.2.2.2.2.1 (HH.out.2.2.2.2.2.1.below H1.out.2)).mono ?_;rintro e w3 ⟨q2,r2,rfl,hR2,_,hB2⟩
   have HP:Hid (Rep W32 w3 q1 (n / Nat.gcd n d)∧Rep W32 w3 q2 (d / Nat.gcd n d)∧Var3 w3 w.heap.size (.bool false) (.slice none 0 0) (.slice none 0 0)∧Bw w w3):=
    hid ⟨H1.out.1.below hB2,hR2,(HH.out.2.2.2.1.below H1.out.2).below hB2,HH.out.2.2.2.2.1.trans ((H1.out.2.mono HH.out.2.2.2.2.1.size).trans (hB2.mono (Nat.le_trans HH.out.2.2.2.2.1.size H1.out.2.size)))⟩
   have Hz:=hid (Ai HH.out.2.2.2.2.2.2.1 HH.out.2.2.2.2.2.2.2);clear HH H1 hR2 hB2 hGB;obtain⟨c0,c1,c2,f0,f1,f2⟩:=HP.out.2.2.1.cells;have hz:=IsZero_any _ _ _ HP.out.1;obtain⟨Zb,hZb⟩:∃Zb,Zb=decide (n / Nat.gcd n d=0):=⟨_,rfl⟩;rw[←hZb] at hz;have HZ:=hid hZb;clear hZb;obtain⟨p1,n1,k1,rfl,_,_,_⟩:=HP.out.1;obtain⟨p2,n2,k2,rfl,_,_,_⟩:=HP.out.2.1;go_wp2_with fail
  all_goals
   first
    | (refine hz.mono ?_
       rintro e w' ⟨rfl,rfl⟩
       go_wp2_with fail)
    | skip
  all_goals
   have hg:=Hz.out.2
   refine New_ret rfl (HP.out.2.2.1.store trivial trivial trivial) ⟨_,rfl,⟨_,_,?_,HP.out.1.store3 HP.out.2.2.1 _ _ _,HP.out.2.1.store3 HP.out.2.2.1 _ _ _⟩,below_store3 HP.out.2.2.2 _ _ _⟩
   first
    | rfl
    | (rw[←sign_true hg,←HZ.out])
def big (n d:Nat):Bool:=decide (W32 ^ 64≤n∨W32 ^ 64≤d)
theorem big_len{n d k m:Nat}(hn:Len W32 n k)(hd:Len W32 d m):big n d=decide (64 < max k m):=by
 unfold big;rw[Bool.eq_iff_iff];simp only[decide_eq_true_eq]
 have key:∀{x j:Nat},Len W32 x j→(W32 ^ 64≤x↔64 < j):=by
  intro x j h;constructor
  ·intro hx
   rcases Nat.lt_or_ge 64 j with hj | hj
   ·exact hj
   ·have h1:=h.1;have h2:=Nat.pow_le_pow_right W32_pos hj;omega
  ·intro hj;exact Nat.le_trans (Nat.pow_le_pow_right W32_pos (show 64≤j - 1 by omega)) (h.2 (by omega))
 rw[key hn,key hd];omega
theorem large_any(v:Value)(s:Bool)(n d:Nat)(w:World)(h:FRep w v s n d)(hn:n < W32 ^ 1000000000)(hd:d < W32 ^ 1000000000):
  Calls Tryz.prog 162 #[v] w fun e w'=>e=.returned (.bool (big n d))∧Bw w w':=by
 obtain⟨vn,vd,rfl,⟨p1,k1,c1,rfl,_,hl1,_⟩,⟨p2,k2,c2,rfl,_,hl2,_⟩⟩:=h;have b1:=hl1.le W32_pos hn;have b2:=hl2.le W32_pos hd;rw[big_len hl1 hl2,show decide (64 < max k1 k2)=decide ((64:Int) < max (k1:Int) (k2:Int)) by rw[Bool.eq_iff_iff];simp only[decide_eq_true_eq];omega];clear hn hd hl1 hl2;go_enter Tryz.func162,Tryz.ntmps162;go_wp2_with fail
 go_ret
 exact⟨rfl,(Br _ _).alloc (Lr _) _⟩
theorem words_any(v:Value)(n:Nat)(w:World)(h:Rep W32 w v n)(hn:n < W32 ^ 1000000000):
  Calls Tryz.prog 163 #[v] w fun e w'=>∃v',e=.returned v'∧Rep W32 w' v' n∧Bw w w':=by
 have hz:=IsZero_any v n w h;obtain⟨p,k,c,rfl,hkc,hl,hs⟩:=h;have hk:=hl.le W32_pos hn;have hmk:=Tryz.mk k (by omega);have hk0:=hl.zero_iff W32_pos
 by_cases h0:n=0
 ·rw[decide_eq_true h0] at hz;clear hn hl hs hk0 hmk;go_enter Tryz.func163,Tryz.ntmps163;go_wp2_with fail;refine hz.mono ?_;rintro e w' ⟨rfl,rfl⟩;go_wp2_with fail
  go_ret
  exact⟨_,rfl,by rw[h0];exact Rep.nil,Br _ _⟩
 ·rw[decide_eq_false h0] at hz
  have hkp:0 < k:=by omega
  have HM0:=hid (Mk.start W32 w k);have Hsa:=hid (hs.alloc (.cells (madeCells #[.int .u32 0] k) 65));have Hl:=hid hl;clear hn hl hs hk0;go_enter Tryz.func163,Tryz.ntmps163;go_wp2_with fail;refine hz.mono ?_;rintro e w' ⟨rfl,rfl⟩;clear hz h0;go_wp2_with (with_reducible refine wpList_copy_digits (dT:=22) (sT:=46) (B:=W32) (w0:=w) (N:=k) (n:=k) (cap:=c) (p:=p) (x:=n) rfl (.tmp 9) (.tmp 10) rfl Tryz.underlying22 rfl rfl W32_pos HM0.out Hsa.out hkp ?_);intro w1 hM;go_wp2_with fail
  go_ret
  rw[show n % W32 ^ k=n from Nat.mod_eq_of_lt Hl.out.1] at hM;exact⟨_,rfl,⟨_,_,_,rfl,Lr _,Hl.out,hM.slc⟩,hM.bel⟩
theorem exists_len(x:Nat):∃m,Len W32 x m:=by
 have key:∀n,x < W32 ^ n→∃m,Len W32 x m:=by
  intro n
  induction n with
  | zero=>intro h;exact⟨0,h,fun h=>absurd h (by omega)⟩
  | succ n ih=>
   intro h
   rcases Nat.lt_or_ge x (W32 ^ n) with h1 | h1
   ·exact ih h1
   ·exact⟨n+1,h,fun _=>h1⟩
 exact key x (Nat.lt_pow_self W32_one)
def Raw (w:World) (v:Value) (x:Nat):Prop:=∃p n cap,v=.slice p n cap∧n≤cap∧n≤1000000000000∧x < W32 ^ n∧Slc w p n (dg W32 x)
theorem Raw.below{w w':World}{v:Value}{x:Nat}(h:Raw w v x)(hb:Bw w w'):Raw w' v x:=by
 obtain⟨p,n,cap,hv,h1,h2,h3,h4⟩:=h;exact⟨p,n,cap,hv,h1,h2,h3,h4.below hb⟩
theorem Rep.raw{w:World}{v:Value}{x:Nat}(h:Rep W32 w v x)(hx:x < W32 ^ 1000000000):Raw w v x:=by
 obtain⟨p,n,cap,hv,h1,h2,h3⟩:=h;exact⟨p,n,cap,hv,h1,by have:=h2.le W32_pos hx;omega,h2.1,h3⟩
def ARep (w:World) (v:Value) (s:Bool) (n d:Nat):Prop:=∃vn vd,v=.agg #[.bool s,vn,vd]∧Raw w vn n∧Raw w vd d
theorem ARep.below{w w':World}{v:Value}{s:Bool}{n d:Nat}(h:ARep w v s n d)(hb:Bw w w'):ARep w' v s n d:=by
 obtain⟨vn,vd,hv,h1,h2⟩:=h;exact⟨vn,vd,hv,h1.below hb,h2.below hb⟩
theorem div_9{x a:Nat}(ha:a≤1000000000)(h:x < W32 ^ a)(y:Nat):x / y < W32 ^ 1000000000:=lt_big (Nat.lt_of_le_of_lt (Nat.div_le_self x y) h) ha
theorem Of_det(p)(n cap x m:Nat)(w:World)(hn:n≤1099511627776)(hnc:n≤cap)(hx:x < W32 ^ n)(hs:Slc w p n (dg W32 x))(hm:Len W32 x m):
  Calls Tryz.prog 156 #[.slice p n cap] w fun e w'=>e=.returned (.slice p m cap)∧w=w':=
 (Of_any p n cap x w hn hnc hx hs).mono fun _ _ ⟨m',he,_,hl,hw⟩=>by
  obtain rfl:=hl.unique W32_one hm;exact⟨he,hw⟩
def den1 (d:Nat):Nat:=if d=0 then 1 else d
theorem den1_pos(d:Nat):0 < den1 d:=by unfold den1;split<;>omega
def large (n d:Nat):Bool:=decide (W32 ^ 256≤n∨W32 ^ 256≤d) || big (n / Nat.gcd n (den1 d)) (den1 d / Nat.gcd n (den1 d))
def zeroF:Value:=.agg #[.bool false,.slice none 0 0,.slice none 0 0]
theorem large_short{n d:Nat}(h:decide (W32 ^ 256≤n∨W32 ^ 256≤d)=false):large n d=big (n / Nat.gcd n (den1 d)) (den1 d / Nat.gcd n (den1 d)):=by unfold large;rw[h];rfl
theorem long_len{n d k m:Nat}(hn:Len W32 n k)(hd:Len W32 d m):decide (W32 ^ 256≤n∨W32 ^ 256≤d)=decide ((256:Int) < max (k:Int) (m:Int)):=by
 rw[Bool.eq_iff_iff];simp only[decide_eq_true_eq]
 have key:∀{x j:Nat},Len W32 x j→(W32 ^ 256≤x↔256 < j):=by
  intro x j h;constructor
  ·intro hx
   rcases Nat.lt_or_ge 256 j with hj | hj
   ·exact hj
   ·have h1:=h.1;have h2:=Nat.pow_le_pow_right W32_pos hj;omega
  ·intro hj;exact Nat.le_trans (Nat.pow_le_pow_right W32_pos (show 256≤j - 1 by omega)) (h.2 (by omega))
 rw[key hn,key hd];omega
theorem FracOf_ret{W:World}{B:Nat}{x y z ev:Value}{tm:Array Value}{R:Ending→World→Prop}(h2:tm[2]?.getD undef=.pointer (some ⟨B,0,none⟩))(h3:tm[3]?.getD undef=ev)(hV:Var3 W B x y z)
  (hR:R (.returned (.tuple #[.agg #[x,y,z],ev])) W):bodyPost Tryz.prog Tryz.f161 R .ret {tmps:=tm,defers:=[]} W:=by
 obtain⟨c0,c1,c2,_,_,_⟩:=hV.cells;exact bodyPost_ret (v:=.tuple #[.agg #[x,y,z],ev]) (by simp [results,Tryz.results161,go_sem,h2,h3,c0,c1,c2]) rfl hR
theorem Var3.drewN{w:World}{B:Nat}{x y z:Value}(h:Var3 w B x y z)(q:Nat):Var3 (w.drewN q) B x y z:=h
theorem Var3.other{w:World}{B C:Nat}{x y z:Value}(h:Var3 w B x y z)(hne:B≠C)(x' y' z':Value):Var3 (((w.setCell ⟨C,0,none⟩ x').setCell ⟨C,1,none⟩ y').setCell ⟨C,2,none⟩ z') B x y z:=by
 obtain⟨t,h0,h1⟩:=h;refine⟨t,?_,h1⟩;rw[Below.heap_setCell _ _ _ _ hne,Below.heap_setCell _ _ _ _ hne,Below.heap_setCell _ _ _ _ hne];exact h0
theorem below_store3'{w W:World}{B:Nat}(h:Bw w W)(hB:w.heap.size≤B)(x y z:Value):Bw w (((W.setCell ⟨B,0,none⟩ x).setCell ⟨B,1,none⟩ y).setCell ⟨B,2,none⟩ z):=
 ((h.setCell hB _).setCell hB _).setCell hB _
theorem FracOf_any(v:Value)(s:Bool)(n d:Nat)(w:World)(h:ARep w v s n d)(ht:TabOk w):
  Calls Tryz.prog 161 #[v] w fun e w'=>Bw w w'∧
   ((large n d=true∧e=.returned (.tuple #[zeroF,.int .i64 1]))∨
    (large n d=false∧∃v',e=.returned (.tuple #[v',.int .i64 0])∧FRep w' v' (s && decide (n≠0)) (n / Nat.gcd n (den1 d)) (den1 d / Nat.gcd n (den1 d)))):=by
 obtain⟨vn,vd,rfl,⟨p1,k1,c1,rfl,hk1,hb1,hx1,hs1⟩,⟨p2,k2,c2,rfl,hk2,hb2,hx2,hs2⟩⟩:=h;obtain⟨m1,hm1⟩:=exists_len n;obtain⟨m2,hm2⟩:=exists_len d;have hle1:=hm1.le W32_pos hx1;have hle2:=hm2.le W32_pos hx2;have hof1:=hid (fun (W:World) (hW:Slc W p1 k1 (dg W32 n))=>Of_det p1 k1 c1 n m1 W (by omega) hk1 hx1 hW hm1);have hof2:=hid (fun (W:World) (hW:Slc W p2 k2 (dg W32 d))=>Of_det p2 k2 c2 d m2 W (by omega) hk2 hx2 hW hm2);have hlong:=long_len hm1 hm2;have HH:=hid (Ai hs1 (Ai hs2 (Ai hm1 (Ai hm2 (Ai hlong ht)))));clear hs1 hs2 hm1 hm2 hx1 hx2 ht hlong;go_enter Tryz.func161,Tryz.ntmps161;go_wp2_with fail
 have hV1:Var3 ((w.alloc (.cells #[.bool s,.slice p1 k1 c1,.slice p2 k2 c2] 24)).alloc (.cells #[.bool false,.slice none 0 0,.slice none 0 0] 48)) w.heap.size (.bool s) (.slice p1 k1 c1) (.slice p2 k2 c2):=
  (Var3.alloc w (x:=.bool s) (y:=.slice p1 k1 c1) (z:=.slice p2 k2 c2) 24 trivial trivial trivial).below ((Br _ _).alloc (Lr _) _)
 have hV2:Var3 ((w.alloc (.cells #[.bool s,.slice p1 k1 c1,.slice p2 k2 c2] 24)).alloc (.cells #[.bool false,.slice none 0 0,.slice none 0 0] 48)) (w.heap.size+1) (.bool false) (.slice none 0 0) (.slice none 0 0):=by
  have:=Var3.alloc (w.alloc (.cells #[.bool s,.slice p1 k1 c1,.slice p2 k2 c2] 24)) (x:=.bool false) (y:=.slice none 0 0) (z:=.slice none 0 0) 48 trivial trivial trivial
  rwa [World.size_alloc] at this
 have hB0:Bw w ((w.alloc (.cells #[.bool s,.slice p1 k1 c1,.slice p2 k2 c2] 24)).alloc (.cells #[.bool false,.slice none 0 0,.slice none 0 0] 48)):=
  ((Br _ _).alloc (Lr _) _).alloc (by rw[World.size_alloc];omega) _
 generalize hW0:(w.alloc (.cells #[.bool s,.slice p1 k1 c1,.slice p2 k2 c2] 24)).alloc (.cells #[.bool false,.slice none 0 0,.slice none 0 0] 48)=W0 at *;clear hW0;have hS1:=hid (fun q:Nat=>(HH.out.1.below hB0).below (below_drewN (Br W0.heap.size W0) q));have hS2:=hid (fun q:Nat=>(HH.out.2.1.below hB0).below (below_drewN (Br W0.heap.size W0) q));obtain⟨c0,c1',c2',_,_,_⟩:=hV1.cells;have HV:=hid (Ai hV1 (Ai hV2 hB0));clear hV1 hV2 hB0
 go_quiet (first | (go_at_call_of 156 k1;exact quiet_gen (hof1.out _ (hS1.out _))) | (go_at_call_of 156 k2;exact quiet_gen (hof2.out _ (hS2.out _))))
 by_cases hL:(256:Int) < max (m1:Int) (m2:Int)
 ·obtain⟨d0,d1,d2,e0,e1,e2⟩:=HV.out.2.1.cells;go_wp2_with fail;refine FracOf_ret rfl rfl ((HV.out.2.1.drewN nq).store trivial trivial trivial) ⟨below_store3' (below_drewN HV.out.2.2 nq) (by omega) _ _ _,.inl ⟨?_,rfl⟩⟩;unfold large;rw[HH.out.2.2.2.2.1,decide_eq_true hL];rfl
 ·have hRn:Rep W32 (W0.drewN nq) (.slice p1 m1 c1) n:=⟨_,_,_,rfl,by omega,HH.out.2.2.1,(hS1.out nq).take hle1⟩;have hRd:Rep W32 (W0.drewN nq) (.slice p2 m2 c2) d:=⟨_,_,_,rfl,by omega,HH.out.2.2.2.1,(hS2.out nq).take hle2⟩
  have hm256:m1≤256∧m2≤256:=by omega
  have hnB:n < W32 ^ 256:=lt_pow HH.out.2.2.1.1 hm256.1
  have hdB:den1 d < W32 ^ 256:=by
   have h1:d < W32 ^ 256:=lt_pow HH.out.2.2.2.1.1 (by omega);have h2:1 < W32 ^ 256:=Nat.lt_of_lt_of_le W32_one (Nat.le_self_pow (by omega) _)
   unfold den1;split<;>omega
  have hlong:decide (W32 ^ 256≤n∨W32 ^ 256≤d)=false:=by rw[HH.out.2.2.2.2.1];exact decide_eq_false hL
  have HT:=hid ((HH.out.2.2.2.2.2.below HV.out.2.2).drewN nq);have HN:=hid (Ai hRn (Ai (lt_pow hnB (show 256≤20000000 by omega)) (Ai (lt_pow hdB (show 256≤20000000 by omega)) (Ai hlong hRd))));have hzd:=IsZero_any _ d _ hRd;clear hRn hRd hnB hdB hlong c0 c1' c2'
  by_cases hd0:d=0
  case' pos=>
   rw[decide_eq_true hd0] at hzd;go_wp2_with fail;refine hzd.mono ?_;rintro e w' ⟨rfl,rfl⟩;clear hzd;go_wp2_with fail;refine(FromUint_any 1 _ (Nat.lt_of_lt_of_le W32_one (Nat.le_self_pow (by omega) _))).mono ?_;rintro e W1 ⟨vd,rfl,hR1,hB1⟩;have HD:Hid (Rep W32 W1 vd (den1 d)∧Below (W0.drewN nq).heap.size (W0.drewN nq) W1):=hid ⟨by unfold den1;rw[if_pos hd0];exact hR1,hB1⟩;obtain⟨b0,hb0,g1,g2⟩:∃b,W1.cell? ⟨w.heap.size,0,none⟩=some (.bool s)∧b=s∧True:=⟨s,(HV.out.1.drewN nq |>.below hB1).cells.1,rfl,trivial⟩;clear hR1 hB1 hd0 g1 g2 b0;go_wp2_with fail
  case' neg=>
   rw[decide_eq_false hd0] at hzd;have HD:Hid (Rep W32 (W0.drewN nq) (.slice p2 m2 c2) (den1 d)∧Below (W0.drewN nq).heap.size (W0.drewN nq) (W0.drewN nq)):=hid ⟨by unfold den1;rw[if_neg hd0];exact HN.out.2.2.2.2,Br _ _⟩;have hb0:W0.cell? ⟨w.heap.size,0,none⟩=some (.bool s):=HV.out.1.cells.1;clear hd0;go_wp2_with fail;refine hzd.mono ?_;rintro e w' ⟨rfl,rfl⟩;clear hzd;go_wp2_with fail
  all_goals
   refine(New_any s _ _ n (den1 d) _ (HN.out.1.below HD.out.2) HD.out.1 HN.out.2.1 HN.out.2.2.1 (den1_pos d) (HT.out.below HD.out.2)).mono ?_
   rintro e W2 ⟨vf,rfl,hF,hB2⟩
   have hBW:Bw w W2:=(below_drewN HV.out.2.2 nq).trans ((HD.out.2.mono (below_drewN HV.out.2.2 nq).size).trans (hB2.mono (Nat.le_trans (below_drewN HV.out.2.2 nq).size HD.out.2.size)))
   have hVr:Var3 W2 (w.heap.size+1) (.bool false) (.slice none 0 0) (.slice none 0 0):=((HV.out.2.1.drewN nq).below HD.out.2).below hB2
   have hlt:w.heap.size+1 < W2.heap.size:=by obtain⟨_,h0,_⟩:=hVr;exact(Array.getElem?_eq_some_iff.1 h0).1
   obtain⟨vn',vd',rfl,hr1,hr2⟩:=hF
   obtain⟨sg,hsg⟩:∃sg,sg=(s && decide (n≠0)):=⟨_,rfl⟩
   rw[←hsg]
   have HSG:=hid hsg
   clear hsg
   have HR:=hid (Ai hr1 hr2)
   obtain⟨pa,ka,ca,rfl,_,_,_⟩:=hr1
   obtain⟨pb,kb,cb,rfl,_,_,_⟩:=hr2
   have HW:=hid (Ai hBW hVr)
   clear hBW hVr hB2 HT HD
   go_wp2_with fail
  all_goals
   have hLg:=hid (large_any _ sg _ _ _ ⟨_,_,rfl,HR.out.1.below ((Br _ _).alloc (Lr _) (Obj.cells #[Value.bool sg,Value.slice pa ka ca,Value.slice pb kb cb] 48)),HR.out.2.below ((Br _ _).alloc (Lr _) _)⟩ (div_9 (by omega) HN.out.2.1 _) (div_9 (by omega) HN.out.2.2.1 _))
   refine hLg.out.mono ?_
   rintro e W3 ⟨rfl,hB3⟩
   have hV3:=(Var3.alloc W2 (x:=.bool sg) (y:=.slice pa ka ca) (z:=.slice pb kb cb) 48 trivial trivial trivial).below hB3
   have hVr3:=(HW.out.2.below ((Br _ _).alloc (Lr _) (Obj.cells #[Value.bool sg,Value.slice pa ka ca,Value.slice pb kb cb] 48))).below hB3
   have HX:=hid (Ai ((HR.out.1.below ((Br _ _).alloc (Lr _) _)).below hB3) (Ai ((HR.out.2.below ((Br _ _).alloc (Lr _) _)).below hB3) (Ai hV3 (Ai hVr3 (HW.out.1.trans (Below.trans ((Br _ _).alloc (Lr _) (Obj.cells #[Value.bool sg,Value.slice pa ka ca,Value.slice pb kb cb] 48)) (hB3.mono (by rw[World.size_alloc];omega)) |>.mono HW.out.1.size))))))
   clear hLg HW HR hB3
   obtain⟨d0,d1,d2,e0,e1,e2⟩:=hVr3.cells
   obtain⟨f0,f1,f2,_,_,_⟩:=hV3.cells
   clear hV3 hVr3
   obtain⟨bb,hbb⟩:∃bb,bb=big (n / Nat.gcd n (den1 d)) (den1 d / Nat.gcd n (den1 d)):=⟨_,rfl⟩
   rw[←hbb]
   have HBB:=hid hbb
   clear hbb
   cases bb
  all_goals go_wp2_with fail
  all_goals
   refine FracOf_ret rfl rfl (HX.out.2.2.2.1.store trivial trivial trivial) ⟨below_store3' HX.out.2.2.2.2 (by omega) _ _ _,?_⟩
   rw[large_short HN.out.2.2.2.1,←HBB.out]
   first
    | exact .inr ⟨rfl,_,rfl,_,_,by rw[←HSG.out],HX.out.1.store3 HX.out.2.2.2.1 _ _ _,HX.out.2.1.store3 HX.out.2.2.2.1 _ _ _⟩
    | exact .inl ⟨rfl,rfl⟩
def sgn (s:Bool) (n:Nat):Int:=if s then -1 else if n=0 then 0 else 1
theorem Sign_any(v:Value)(s:Bool)(n d:Nat)(w:World)(h:FRep w v s n d):
  Calls Tryz.prog 89 #[v] w fun e w'=>e=.returned (.int .i64 (sgn s n))∧Bw w w':=by
 obtain⟨vn,vd,rfl,hn,hd⟩:=h;have HR:=hid (Ai hn hd);obtain⟨p1,k1,c1,rfl,_,_,_⟩:=hn;obtain⟨p2,k2,c2,rfl,_,_,_⟩:=hd;cases s
 ·by_cases h0:n=0
  all_goals
   first | have H0:Hid (sgn false n=0∧decide (n=0)=true):=hid ⟨by simp [sgn,h0],decide_eq_true h0⟩ | have H0:Hid (sgn false n=1∧decide (n=0)=false):=hid ⟨by simp [sgn,h0],decide_eq_false h0⟩
   clear h0
   go_enter Tryz.func89,Tryz.ntmps89
   go_wp2_with fail
   have hz:=IsZero_any _ n _ (HR.out.1.alloc (.cells #[.bool false,.slice p1 k1 c1,.slice p2 k2 c2] 48))
   rw[H0.out.2] at hz
   refine hz.mono ?_
   rintro e w' ⟨rfl,rfl⟩
   clear hz
   go_wp2_with fail
   go_ret
   exact⟨by rw[H0.out.1];rfl,(Br _ _).alloc (Lr _) _⟩
 ·go_enter Tryz.func89,Tryz.ntmps89;go_wp2_with fail
  go_ret
  exact⟨rfl,(Br _ _).alloc (Lr _) _⟩
theorem sense_any(v:Value)(s:Bool)(n d:Nat)(w:World)(h:FRep w v s n d):
  Calls Tryz.prog 159 #[v] w fun e w'=>e=.returned (.int .i64 (if s then -1 else 1))∧Bw w w':=by
 obtain⟨vn,vd,rfl,hn,hd⟩:=h;obtain⟨p1,k1,c1,rfl,_,_,_⟩:=hn;obtain⟨p2,k2,c2,rfl,_,_,_⟩:=hd;cases s
 all_goals
  go_enter Tryz.func159,Tryz.ntmps159
  go_wp2_with fail
  go_ret
  exact⟨rfl,(Br _ _).alloc (Lr _) _⟩
theorem Var3.alloc2(w:World)(o:Obj){x y z:Value}(t:Nat)(hx:NotInt x)(hy:NotInt y)(hz:NotInt z):Var3 ((w.alloc o).alloc (.cells #[x,y,z] t)) (w.heap.size+1) x y z:=by
 have h:=Var3.alloc (w.alloc o) t hx hy hz
 rwa [World.size_alloc] at h
theorem below_alloc2(w:World)(o o':Obj):Bw w ((w.alloc o).alloc o'):=((Br _ _).alloc (Lr _) _).alloc (by rw[World.size_alloc];omega) _
theorem bcellN{N:Nat}{W w1:World}(hb:Below N W w1)(b o:Nat)(h:b < N):w1.cell? ⟨b,o,none⟩=W.cell? ⟨b,o,none⟩:=hb.cell (p:=⟨b,o,none⟩) h
theorem held3{N:Nat}{W0 W w':World}{a b c:Prop}(h:a∧b∧c∧Hid (Below N W0 W))(hB:Bw W w')(hN:N≤W0.heap.size):Below N W0 w':=
 h.2.2.2.out.trans (hB.mono (Nat.le_trans hN h.2.2.2.out.size))
theorem below_set3{N B:Nat}{W0 W:World}{x y z:Value}(h:Below N W0 W)(hN:N≤B):Below N W0 (((W.setCell ⟨B,0,none⟩ x).setCell ⟨B,1,none⟩ y).setCell ⟨B,2,none⟩ z):=((h.setCell hN _).setCell hN _).setCell hN _
theorem Neg_ret{W:World}{B:Nat}{x y z:Value}{tm:Array Value}{R:Ending→World→Prop}(h2:tm[2]?.getD undef=.pointer (some ⟨B,0,none⟩))(hV:Var3 W B x y z)(hR:R (.returned (.agg #[x,y,z])) W):
  bodyPost Tryz.prog Tryz.f111 R .ret {tmps:=tm,defers:=[]} W:=by
 obtain⟨c0,c1,c2,_,_,_⟩:=hV.cells;exact bodyPost_ret (v:=.agg #[x,y,z]) (by simp [results,Tryz.results111,go_sem,h2,c0,c1,c2]) rfl hR
theorem Neg_any(v:Value)(s:Bool)(n d:Nat)(w:World)(h:FRep w v s n d):
  Calls Tryz.prog 111 #[v] w fun e w'=>∃v',e=.returned v'∧FRep w' v' (!s && decide (n≠0)) n d∧Bw w w':=by
 obtain⟨vn,vd,rfl,hn,hd⟩:=h;have HR:=hid (Ai hn hd);obtain⟨p1,k1,c1,rfl,_,_,_⟩:=hn;obtain⟨p2,k2,c2,rfl,_,_,_⟩:=hd;obtain⟨sg,hsg⟩:∃sg,sg=(!s && decide (n≠0)):=⟨_,rfl⟩
 have hgt:decide ((0:Int) < sgn s n)=sg:=by rw[hsg];unfold sgn;cases s<;>by_cases h0:n=0<;>simp [h0]
 rw[←hsg];obtain⟨g,hg⟩:∃g,g=sgn s n:=⟨_,rfl⟩
 have hSign:Hid (∀W,Rep W32 W (.slice p1 k1 c1) n→Rep W32 W (.slice p2 k2 c2) d→Calls Tryz.prog 89 #[.agg #[.bool s,.slice p1 k1 c1,.slice p2 k2 c2]] W fun e w'=>e=.returned (.int .i64 g)∧Bw W w'):=
  hid fun W h1 h2=>by rw[hg];exact Sign_any _ s n d W ⟨_,_,rfl,h1,h2⟩
 rw[←hg] at hgt;clear hg hsg;go_enter Tryz.func111,Tryz.ntmps111;go_wp2_with fail;have hV0:=(Var3.alloc w (x:=.bool s) (y:=.slice p1 k1 c1) (z:=.slice p2 k2 c2) 48 trivial trivial trivial).below ((Br _ _).alloc (Lr _) (.cells #[.bool false,.slice none 0 0,.slice none 0 0] 48));have hV2:=Var3.alloc2 w (.cells #[.bool s,.slice p1 k1 c1,.slice p2 k2 c2] 48) (x:=.bool false) (y:=.slice none 0 0) (z:=.slice none 0 0) 48 trivial trivial trivial;have hB0:=below_alloc2 w (.cells #[.bool s,.slice p1 k1 c1,.slice p2 k2 c2] 48) (.cells #[.bool false,.slice none 0 0,.slice none 0 0] 48);generalize hW0:(w.alloc (.cells #[.bool s,.slice p1 k1 c1,.slice p2 k2 c2] 48)).alloc (.cells #[.bool false,.slice none 0 0,.slice none 0 0] 48)=W0 at *;clear hW0
 have hn1:w.heap.size+1≤W0.heap.size:=by obtain⟨_,h0,_⟩:=hV2;exact Nat.succ_le_of_lt (Nat.lt_of_succ_lt (Array.getElem?_eq_some_iff.1 h0).1)
 have HS:Hid (∀w',Below (w.heap.size+1) W0 w'→(w'.cell? ⟨w.heap.size,0,none⟩=some (.bool s)∧w'.cell? ⟨w.heap.size,1,none⟩=some (.slice p1 k1 c1)∧w'.cell? ⟨w.heap.size,2,none⟩=some (.slice p2 k2 c2)∧Hid (Below (w.heap.size+1) W0 w'))):=
  hid fun w' hb=>⟨(bcellN hb _ _ (Nat.lt_succ_self _)).trans hV0.cells.1,(bcellN hb _ _ (Nat.lt_succ_self _)).trans hV0.cells.2.1,(bcellN hb _ _ (Nat.lt_succ_self _)).trans hV0.cells.2.2.1,hid hb⟩
 have HV:=hid (Ai (hV2.below (Br _ _).drew) (Ai hV0 hB0));clear hV0 hV2 hB0
 go_region_held3 (fun w'=>w'.cell? ⟨w.heap.size,0,none⟩=some (.bool s)∧w'.cell? ⟨w.heap.size,1,none⟩=some (.slice p1 k1 c1)∧w'.cell? ⟨w.heap.size,2,none⟩=some (.slice p2 k2 c2)∧Hid (Below (w.heap.size+1) W0 w'))
  (first | exact HS.out _ (Br _ _).drew | (exact HS.out _ (by assumption)) | exact HS.out _ (below_set3 (by assumption) (Lr _)))
  (first | (go_at_call 89;refine(hSign.out _ ((HR.out.1.below HV.out.2.2).drew) ((HR.out.2.below HV.out.2.2).drew)).mono ?_
            rintro e w1 ⟨rfl,hB⟩
            have hBN:=held3 (N:=w.heap.size+1) (W0:=W0) (by assumption) hB hn1
            obtain⟨x0,x1,x2,y0,y1,y2⟩:=(HV.out.1.below hB).cells))
 rename_i hHeld
 clear hHeld;go_wp2_with fail;have hV:=HV.out.1.below hB;exact Neg_ret rfl (hV.store trivial trivial trivial) ⟨_,rfl,⟨_,_,rfl,(((HR.out.1.below HV.out.2.2).drew).below hB).store3 hV _ _ _,(((HR.out.2.below HV.out.2.2).drew).below hB).store3 hV _ _ _⟩,below_set3 ((HV.out.2.2.trans ((Br _ _).drew)).trans (hB.mono HV.out.2.2.size)) (Nat.le_succ _)⟩
def frac (s:Bool) (n d:Nat):Tq:=(s && decide (n≠0),n / Nat.gcd n d,d / Nat.gcd n d)
def FNorm (w:World) (v:Value) (t:Tq):Prop:=FRep w v t.1 t.2.1 t.2.2
theorem FNorm.below{w w':World}{v:Value}{t:Tq}(h:FNorm w v t)(hb:Bw w w'):FNorm w' v t:=FRep.below h hb
def fadd (a b:Tq):Tq:=
 if a.1=b.1 then frac a.1 (a.2.1*b.2.2+b.2.1*a.2.2) (a.2.2*b.2.2)
 else if a.2.1*b.2.2 < b.2.1*a.2.2 then frac b.1 (b.2.1*a.2.2 - a.2.1*b.2.2) (a.2.2*b.2.2)
 else frac a.1 (a.2.1*b.2.2 - b.2.1*a.2.2) (a.2.2*b.2.2)
theorem lt_mul{x y a b c:Nat}(hx:x < W32 ^ a)(hy:y < W32 ^ b)(h:a+b≤c):x*y < W32 ^ c:=by
 refine lt_pow ?_ h;rw[Nat.pow_add];have h1:0 < W32 ^ a:=Nat.pow_pos W32_pos
 rcases Nat.eq_zero_or_pos y with h0 | h0
 ·subst h0;rw[Nat.mul_zero];exact Nat.mul_pos h1 (Nat.pow_pos W32_pos)
 ·exact Nat.lt_of_lt_of_le (Nat.mul_lt_mul_of_pos_right hx h0) (Nat.mul_le_mul_left _ (Nat.le_of_lt hy))
theorem lt_add{x y a c:Nat}(hx:x < W32 ^ a)(hy:y < W32 ^ a)(h:a+1≤c):x+y < W32 ^ c:=by
 refine lt_pow ?_ h;rw[Nat.pow_succ];have:W32 ^ a*2≤W32 ^ a*W32:=Nat.mul_le_mul_left _ (by decide);omega
theorem lt_20{x a:Nat}(h:x < W32 ^ a)(hab:a≤20000000):x < W32 ^ 20000000:=by
 generalize 20000000=b at *;exact Nat.lt_of_lt_of_le h (Nat.pow_le_pow_right W32_pos hab)
theorem cmp3_ge0{x y:Nat}(h:¬x < y):(0:Int)≤cmp3 x y:=by unfold cmp3;rw[if_neg h];split<;>decide
theorem Var3.alloc3(w:World)(o o':Obj){x y z:Value}(t:Nat)(hx:NotInt x)(hy:NotInt y)(hz:NotInt z):Var3 (((w.alloc o).alloc o').alloc (.cells #[x,y,z] t)) (w.heap.size+2) x y z:=by
 have h:=Var3.alloc ((w.alloc o).alloc o') t hx hy hz
 rwa [World.size_alloc,World.size_alloc] at h
theorem below_alloc3(w:World)(o o' o'':Obj):Bw w (((w.alloc o).alloc o').alloc o''):=(below_alloc2 w o o').alloc (by rw[World.size_alloc,World.size_alloc];omega) _
theorem below_pre{N:Nat}{W0 W:World}(h:Bw W0 W)(hN:N≤W0.heap.size):Below N W0 W:=h.mono hN
theorem held_any{W0 W w':World}(h:Bw W0 W)(hB:Bw W w'):Bw W0 w':=h.trans (hB.mono h.size)
theorem held4{N:Nat}{W0 W:World}{a b c d:Prop}(h:a∧b∧c∧d∧Hid (Below N W0 W)):Below N W0 W:=h.2.2.2.2.out
theorem fopen{f:FuncId}{args:Array Value}{w:World}{t:Tq}(h:Calls Tryz.prog f args w fun e w'=>∃v,e=.returned v∧FNorm w' v t∧Bw w w'):
  Calls Tryz.prog f args w fun e w'=>∃sg pa ka ca pb kb cb,e=.returned (.agg #[.bool sg,.slice pa ka ca,.slice pb kb cb])∧Hid (FNorm w' (.agg #[.bool sg,.slice pa ka ca,.slice pb kb cb]) t)∧Bw w w':=by
 refine h.mono ?_;rintro e w' ⟨v,he,hF,hB⟩;obtain⟨vn,vd,hv,h1,h2⟩:=hF;obtain⟨pa,ka,ca,rfl,a1⟩:=id h1;obtain⟨pb,kb,cb,rfl,a2⟩:=id h2;exact⟨t.1,pa,ka,ca,pb,kb,cb,by rw[he,hv],hid ⟨_,_,rfl,h1,h2⟩,hB⟩
theorem FNorm.store3{w:World}{B:Nat}{a b c:Value}{v:Value}{t:Tq}(h:FNorm w v t)(hV:Var3 w B a b c)(x y z:Value):FNorm (((w.setCell ⟨B,0,none⟩ x).setCell ⟨B,1,none⟩ y).setCell ⟨B,2,none⟩ z) v t:=by
 obtain⟨vn,vd,hv,h1,h2⟩:=h;exact⟨vn,vd,hv,h1.store3 hV _ _ _,h2.store3 hV _ _ _⟩
end Go.Proofs.YteblinkehldghaaGreatDoor
