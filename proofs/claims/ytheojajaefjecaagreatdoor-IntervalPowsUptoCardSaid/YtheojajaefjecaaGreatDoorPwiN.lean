/- Pow of the reference, equal to the program's. -/
import Derived.Test.YtheojajaefjecaaGreatDoorPwiM
import Derived.Test.YtheojajaefjecaaGreatDoorPwiP
import Derived.Test.YtheojajaefjecaaGreatDoorGrtT
set_option maxHeartbeats 8000000
set_option maxRecDepth 100000
namespace Go.Proofs.YtheojajaefjecaaGreatDoor
open Go.RowKit Dg
open List renaming setIfInBounds_toArray→Sa,set_cons_zero→Sz,set_cons_succ→Sc
open Nat renaming le_refl→Lr
theorem rPowerR_any(r:Nat)(v:Value)(t:Tq)(k:Nat)(w:World)(h:QNorm w v (t.1,t.2.1,r))(hr:den1 r=t.2.2)(hn:t.2.1 < B16 ^ 1000)(hd:t.2.2 < B16 ^ 1000)(hk:k < 256):
  Calls Tryz.prog 132 #[v,.int .i64 (k:Int)] w fun e w'=>∃v',e=.returned v'∧QNorm w' v' (fpow t k)∧Bw w w':=by
 have HDa:=hid (fun (W:World) (hW:Bw w W)=>den_any v t.1 t.2.1 r W (h.below hW));rw[hr] at HDa;obtain⟨vn1,vd1,rfl,hrn,hrd⟩:=h;have HPn:=hid (fun (W:World) (hW:Bw w W)=>NatPow_any vn1 t.2.1 k 1000 W (hrn.below hW) hn (Lr _) hk);have HPd:=hid (fun (W:World) (v1:Value) (h1:Rep B16 W v1 t.2.2)=>NatPow_any v1 t.2.2 k 1000 W h1 hd (Lr _) hk);obtain⟨b,hb⟩:∃b,b=decide (k % 2=1):=⟨_,rfl⟩
 have ho1:((k:Int) % 2 == 1)=b:=by
  rw[hb]
  by_cases h:k % 2=1
  ·rw[decide_eq_true h,show(k:Int) % 2=1 by omega];rfl
  ·rw[decide_eq_false h,show(k:Int) % 2=0 by omega];rfl
 have ho2:(Int.tmod (k:Int) 2 == 1)=b:=by rw[Int.tmod_eq_emod_of_nonneg (by omega)];exact ho1
 have hneg:decide ((k:Int) < 0)=false:=decide_eq_false (by omega)
 show Calls _ _ _ _ fun e w'=>∃v',e=.returned v'∧QNorm w' v' (t.1 && decide (k % 2=1),t.2.1 ^ k,t.2.2 ^ k)∧Bw w w'
 rw[←hb];clear hn hd hk hb hr;obtain⟨N,hN⟩:∃b,b=t.2.1 ^ k:=⟨_,rfl⟩;obtain⟨D,hD⟩:∃b,b=t.2.2 ^ k:=⟨_,rfl⟩;rw[←hN] at HPn ⊢;rw[←hD] at HPd ⊢;clear hN hD;obtain⟨p1,k1,c1,rfl,_⟩:=hrn;obtain⟨p2,k2,c2,rfl,_⟩:=hrd;obtain⟨s1,hs1⟩:∃s,s=t.1:=⟨_,rfl⟩;rw[←hs1] at HDa ⊢;clear hs1;have hal:=below_alloc2 w (.cells #[.bool s1,.slice p1 k1 c1,.slice p2 k2 c2] 47) (.cells #[.bool false,.slice none 0 0,.slice none 0 0] 47);have hVa:=(Var3.alloc w (x:=.bool s1) (y:=.slice p1 k1 c1) (z:=.slice p2 k2 c2) 47 trivial trivial trivial).below ((Below.refl _ _).alloc (Lr _) (.cells #[.bool false,.slice none 0 0,.slice none 0 0] 47));have hVr:=Var3.alloc2 w (.cells #[.bool s1,.slice p1 k1 c1,.slice p2 k2 c2] 47) (x:=.bool false) (y:=.slice none 0 0) (z:=.slice none 0 0) 47 trivial trivial trivial;go_enter Tryz.func132,Tryz.ntmps132;go_upto_region 1 with fail;generalize(w.alloc (.cells #[.bool s1,.slice p1 k1 c1,.slice p2 k2 c2] 47)).alloc (.cells #[.bool false,.slice none 0 0,.slice none 0 0] 47)=W0 at *
 have hn1:w.heap.size+1≤W0.heap.size:=by obtain⟨_,h0,_⟩:=hVr;exact Nat.le_of_lt (Array.getElem?_eq_some_iff.1 h0).1
 have HV:=hid (And.intro hVr hal);have HB0:=hid hal;obtain⟨a0,a1,a2,_⟩:=id hVa.cells
 have HS:Hid (∀w',Below (w.heap.size+1) W0 w'→(w'.cell? ⟨w.heap.size,0,none⟩=some (.bool s1)∧w'.cell? ⟨w.heap.size,1,none⟩=some (.slice p1 k1 c1)∧w'.cell? ⟨w.heap.size,2,none⟩=some (.slice p2 k2 c2)∧Hid (Below (w.heap.size+1) W0 w'))):=
  hid fun w' hb=>⟨(bcellN hb _ _ (by omega)).trans hVa.cells.1,(bcellN hb _ _ (by omega)).trans hVa.cells.2.1,(bcellN hb _ _ (by omega)).trans hVa.cells.2.2.1,hid hb⟩
 clear hVr hVa hal;go_wp2_with fail;cases s1
 ·refine wp_region_held_drew (S:=fun w'=>w'.cell? ⟨w.heap.size,0,none⟩=some (.bool false)∧w'.cell? ⟨w.heap.size,1,none⟩=some (.slice p1 k1 c1)∧w'.cell? ⟨w.heap.size,2,none⟩=some (.slice p2 k2 c2)∧Hid (Below (w.heap.size+1) W0 w')) (by kernel_rfl) (HS.out _ (Below.refl _ _).drew) (fun hHeld=>?_);refine wpAnyH_take (i:=0) (oi:={dst:=some 13,op:=Op.fieldAddr 47 (Operand.tmp 2) 0,type:=0,pos:= "ref.go:215",after:=#[],guard:=none}) (v:=?v0) rfl (by kernel_rfl) (by kernel_rfl) (by kernel_rfl) (fun _ _ _ h=>h) (Or.inl ⟨by rfl,?hy0⟩) (by assumption) ?_
  case hy0=>(intro w hSw;(try dsimp only at hSw);go_simp;(try (with_reducible rfl)))
  (try simp only[Act.put,Sa,Sz,Sc]);refine wpAnyH_take (i:=1) (oi:={dst:=some 14,op:=Op.load 4 (Operand.tmp 13),type:=4,pos:= "ref.go:215",after:=#[{on:=0,ground:=Ground.data}],guard:=none}) (v:=?v1) rfl (by kernel_rfl) (by kernel_rfl) (by kernel_rfl) (fun _ _ _ h=>h) (Or.inl ⟨by rfl,?hy1⟩) (by assumption) ?_
  case hy1=>(intro w hSw;(try dsimp only at hSw);go_simp;(try (with_reducible rfl)))
  (try simp only[Act.put,Sa,Sz,Sc]);refine wpAnyH_take (i:=2) (oi:={dst:=some 15,op:=Op.move (Operand.tmp 14),type:=4,pos:= "ref.go:215",after:=#[{on:=1,ground:=Ground.data}],guard:=none}) (v:=?v2) rfl (by kernel_rfl) (by kernel_rfl) (by kernel_rfl) (fun _ _ _ h=>h) (Or.inl ⟨by rfl,?hy2⟩) (by assumption) ?_
  case hy2=>(intro w hSw;(try dsimp only at hSw);go_simp;(try (with_reducible rfl)))
  (try simp only[Act.put,Sa,Sz,Sc]);refine wpAnyH_take (i:=3) (oi:={dst:=some 16,op:=Op.move (Operand.tmp 1),type:=3,pos:= "ref.go:215",after:=#[{on:=2,ground:=Ground.guard}],guard:=some (2,true)}) (v:=undef) rfl (by kernel_rfl) (by kernel_rfl) (by kernel_rfl) (fun _ _ _ h=>h) (Or.inr ⟨by rfl,rfl⟩) (by assumption) ?_;(try simp only[Act.put,Sa,Sz,Sc]);refine wpAnyH_take (i:=4) (oi:={dst:=some 17,op:=Op.binOp BinOp.rem 3 (Operand.tmp 16) (Operand.const (Value.int IntKind.i64 2)) 3,type:=3,pos:= "ref.go:215",after:=#[{on:=3,ground:=Ground.data},{on:=2,ground:=Ground.guard}],guard:=some (2,true)}) (v:=undef) rfl (by kernel_rfl) (by kernel_rfl) (by kernel_rfl) (fun _ _ _ h=>h) (Or.inr ⟨by rfl,rfl⟩) (by assumption) ?_;(try simp only[Act.put,Sa,Sz,Sc]);refine wpAnyH_take (i:=5) (oi:={dst:=some 18,op:=Op.binOp BinOp.eql 3 (Operand.tmp 17) (Operand.const (Value.int IntKind.i64 1)) 3,type:=4,pos:= "ref.go:215",after:=#[{on:=4,ground:=Ground.data},{on:=2,ground:=Ground.guard}],guard:=some (2,true)}) (v:=undef) rfl (by kernel_rfl) (by kernel_rfl) (by kernel_rfl) (fun _ _ _ h=>h) (Or.inr ⟨by rfl,rfl⟩) (by assumption) ?_;(try simp only[Act.put,Sa,Sz,Sc]);refine wpAnyH_take (i:=6) (oi:={dst:=some 19,op:=Op.pick (Operand.tmp 15) (Operand.tmp 18) (Operand.const (Value.bool false)),type:=4,pos:= "ref.go:215",after:=#[{on:=2,ground:=Ground.data},{on:=5,ground:=Ground.data}],guard:=none}) (v:=?v6) rfl (by kernel_rfl) (by kernel_rfl) (by kernel_rfl) (fun _ _ _ h=>h) (Or.inl ⟨by rfl,?hy6⟩) (by assumption) ?_
  case hy6=>(intro w hSw;(try dsimp only at hSw);go_simp;(try (with_reducible rfl)))
  (try simp only[Act.put,Sa,Sz,Sc]);refine wpAnyH_take (i:=7) (oi:={dst:=some 20,op:=Op.fieldAddr 47 (Operand.tmp 2) 1,type:=0,pos:= "ref.go:215",after:=#[],guard:=none}) (v:=?v7) rfl (by kernel_rfl) (by kernel_rfl) (by kernel_rfl) (fun _ _ _ h=>h) (Or.inl ⟨by rfl,?hy7⟩) (by assumption) ?_
  case hy7=>(intro w hSw;(try dsimp only at hSw);go_simp;(try (with_reducible rfl)))
  (try simp only[Act.put,Sa,Sz,Sc]);refine wpAnyH_take (i:=8) (oi:={dst:=some 21,op:=Op.load 45 (Operand.tmp 20),type:=45,pos:= "ref.go:215",after:=#[{on:=7,ground:=Ground.data}],guard:=none}) (v:=?v8) rfl (by kernel_rfl) (by kernel_rfl) (by kernel_rfl) (fun _ _ _ h=>h) (Or.inl ⟨by rfl,?hy8⟩) (by assumption) ?_
  case hy8=>(intro w hSw;(try dsimp only at hSw);go_simp;(try (with_reducible rfl)))
  (try simp only[Act.put,Sa,Sz,Sc]);refine wpAnyH_take (i:=9) (oi:={dst:=some 22,op:=Op.move (Operand.tmp 1),type:=3,pos:= "ref.go:215",after:=#[],guard:=none}) (v:=?v9) rfl (by kernel_rfl) (by kernel_rfl) (by kernel_rfl) (fun _ _ _ h=>h) (Or.inl ⟨by rfl,?hy9⟩) (by assumption) ?_
  case hy9=>(intro w hSw;(try dsimp only at hSw);go_simp;(try (with_reducible rfl)))
  (try simp only[Act.put,Sa,Sz,Sc]);refine wpAnyH_take (i:=11) (oi:={dst:=some 24,op:=Op.load 47 (Operand.tmp 2),type:=47,pos:= "ref.go:215",after:=#[],guard:=none}) (v:=?v11) rfl (by kernel_rfl) (by kernel_rfl) (by kernel_rfl) (fun _ _ _ h=>h) (Or.inl ⟨by rfl,?hy11⟩) (by assumption) ?_
  case hy11=>(intro w hSw;(try dsimp only at hSw);go_simp;(try (with_reducible rfl)))
  (try simp only[Act.put,Sa,Sz,Sc]);refine wpAnyH_take (i:=13) (oi:={dst:=some 26,op:=Op.move (Operand.tmp 1),type:=3,pos:= "ref.go:215",after:=#[],guard:=none}) (v:=?v13) rfl (by kernel_rfl) (by kernel_rfl) (by kernel_rfl) (fun _ _ _ h=>h) (Or.inl ⟨by rfl,?hy13⟩) (by assumption) ?_
  case hy13=>(intro w hSw;(try dsimp only at hSw);go_simp;(try (with_reducible rfl)))
  (try simp only[Act.put,Sa,Sz,Sc]);refine wpAnyH_ready (rs:=[10]) (by kernel_rfl) (by simp) ?_;refine AllReadyH.cons (o:={dst:=some 23,op:=Op.call {callee:=Callee.value (Operand.func 188),args:=#[Operand.tmp 21,Operand.tmp 22],argTypes:=#[45,3]},type:=45,pos:= "ref.go:215",after:=#[{on:=8,ground:=Ground.data},{on:=9,ground:=Ground.data},{on:=2,ground:=Ground.chain}],guard:=none}) rfl (fun K hK=>?_) AllReadyH.nil;go_simp;refine(HPn.out _ (HB0.out.trans ((held3' (N:=w.heap.size+1) (W0:=W0) hHeld).mono (by omega)))).mono ?_;rintro e wa ⟨v6,rfl,hRa,hBa⟩;have hKa:=held_any (W0:=W0) (Below.refl _ _).drew hBa;have hKa2:=below_pre hKa hn1;obtain⟨p6,k6,c6,rfl,hx6⟩:=id hRa;clear hx6 hHeld
  try go_wp2_with fail
  refine hK.out _ _ ?_ (fun hHeld=>?_)
  ·exact HS.out _ hKa2
  clear hK K;(try simp only[Act.put,Sa,Sz,Sc]);refine wpAnyH_ready (rs:=[12]) (by kernel_rfl) (by simp) ?_;refine AllReadyH.cons (o:={dst:=some 25,op:=Op.call {callee:=Callee.value (Operand.func 97),args:=#[Operand.tmp 24],argTypes:=#[47]},type:=45,pos:= "ref.go:215",after:=#[{on:=11,ground:=Ground.data},{on:=10,ground:=Ground.chain}],guard:=none}) rfl (fun K hK=>?_) AllReadyH.nil;go_simp;refine(HDa.out _ (HB0.out.trans (hKa.mono (by omega)))).mono ?_;rintro e wc ⟨v8,rfl,hRc,hBc⟩;have hKc:=held_any hKa hBc;have hKc2:=below_pre hKc hn1;obtain⟨p8,k8,c8,rfl,hx8⟩:=id hRc;clear hx8 hHeld
  try go_wp2_with fail
  refine hK.out _ _ ?_ (fun hHeld=>?_)
  ·exact HS.out _ hKc2
  clear hK K;(try simp only[Act.put,Sa,Sz,Sc]);refine wpAnyH_ready (rs:=[14]) (by kernel_rfl) (by simp) ?_;refine AllReadyH.cons (o:={dst:=some 27,op:=Op.call {callee:=Callee.value (Operand.func 188),args:=#[Operand.tmp 25,Operand.tmp 26],argTypes:=#[45,3]},type:=45,pos:= "ref.go:215",after:=#[{on:=12,ground:=Ground.data},{on:=13,ground:=Ground.data},{on:=12,ground:=Ground.chain}],guard:=none}) rfl (fun K hK=>?_) AllReadyH.nil;go_simp;refine(HPd.out _ _ hRc).mono ?_;rintro e wb ⟨v7,rfl,hRb,hBb⟩;have hKb:=held_any hKc hBb;have hKb2:=below_pre hKb hn1;obtain⟨p7,k7,c7,rfl,hx7⟩:=id hRb;clear hx7 hHeld;obtain⟨x0,x1,x2,y0,y1,y2⟩:=(HV.out.1.below hKb).cells
  try go_wp2_with fail
  refine hK.out _ _ ?_ (fun hHeld=>?_)
  ·exact HS.out _ hKb2
  clear hK K;(try simp only[Act.put,Sa,Sz,Sc]);refine wpAnyH_take (i:=15) (oi:={dst:=some 28,op:=Op.build 47 #[(0,Operand.tmp 19),(1,Operand.tmp 23),(2,Operand.tmp 27)],type:=47,pos:= "ref.go:215",after:=#[{on:=6,ground:=Ground.data},{on:=10,ground:=Ground.data},{on:=14,ground:=Ground.data}],guard:=none}) (v:=?v15) rfl (by kernel_rfl) (by kernel_rfl) (by kernel_rfl) (fun _ _ _ h=>h) (Or.inl ⟨by rfl,?hy15⟩) (by assumption) ?_
  case hy15=>(intro w hSw;(try dsimp only at hSw);go_simp;(try (with_reducible rfl)))
  (try simp only[Act.put,Sa,Sz,Sc]);refine wpAnyH_ready (rs:=[16]) (by kernel_rfl) (by simp) ?_;refine AllReadyH.cons (o:={dst:=none,op:=Op.store 47 (Operand.tmp 4) (Operand.tmp 28),type:=0,pos:= "ref.go:215",after:=#[{on:=15,ground:=Ground.data},{on:=14,ground:=Ground.chain},{on:=0,ground:=Ground.phase},{on:=1,ground:=Ground.phase},{on:=2,ground:=Ground.phase},{on:=3,ground:=Ground.phase},{on:=4,ground:=Ground.phase},{on:=5,ground:=Ground.phase},{on:=6,ground:=Ground.phase},{on:=7,ground:=Ground.phase},{on:=8,ground:=Ground.phase},{on:=9,ground:=Ground.phase},{on:=10,ground:=Ground.phase},{on:=11,ground:=Ground.phase},{on:=12,ground:=Ground.phase},{on:=13,ground:=Ground.phase},{on:=14,ground:=Ground.phase},{on:=15,ground:=Ground.phase}],guard:=none}) rfl (fun K hK=>?_) AllReadyH.nil;go_simp
  try go_wp2_with fail
  refine hK.out _ _ ?_ (fun hHeld=>?_)
  ·exact HS.out _ (below_set3 hKb2 (Lr _))
  clear hK K;(try simp only[Act.put,Sa,Sz,Sc]);refine wpAnyH_done (by kernel_rfl) ?_ _;have HVb:=HV.out.1.below hKb;go_wp2_with fail;exact rPower_ret rfl (HVb.store trivial trivial trivial) ⟨_,rfl,⟨_,_,rfl,((hRa.below hBc).below hBb).store3 HVb _ _ _,hRb.store3 HVb _ _ _⟩,below_set3 (HV.out.2.trans (hKb.mono (by omega))) (Nat.le_succ _)⟩
 ·cases b
  all_goals
   go_region_held3 (fun w'=>w'.cell? ⟨w.heap.size,0,none⟩=some (.bool true)∧w'.cell? ⟨w.heap.size,1,none⟩=some (.slice p1 k1 c1)∧w'.cell? ⟨w.heap.size,2,none⟩=some (.slice p2 k2 c2)∧Hid (Below (w.heap.size+1) W0 w'))
    (first | exact HS.out _ (Below.refl _ _).drew | (exact HS.out _ (by assumption)) | exact HS.out _ (below_set3 (by assumption) (Lr _)))
    (first
     | (go_at_call_of 188 k1;refine(HPn.out _ (HB0.out.trans ((held3' (N:=w.heap.size+1) (W0:=W0) (by assumption)).mono (by omega)))).mono ?_;rintro e wa ⟨v6,rfl,hRa,hBa⟩;have hKa:=held_any (by first | assumption | exact(Below.refl _ _).drew) hBa;have hKa2:=below_pre hKa hn1;obtain⟨p6,k6,c6,rfl,hx6⟩:=id hRa;clear hx6)
     | (go_at_call 97;refine(HDa.out _ (HB0.out.trans ((held3' (N:=w.heap.size+1) (W0:=W0) (by assumption)).mono (by omega)))).mono ?_;rintro e wc ⟨v8,rfl,hRc,hBc⟩;have hKc:=held_any hKa hBc;have hKc2:=below_pre hKc hn1;obtain⟨p8,k8,c8,rfl,hx8⟩:=id hRc;clear hx8)
     | (go_at_call_of 188 k8;refine(HPd.out _ _ hRc).mono ?_;rintro e wb ⟨v7,rfl,hRb,hBb⟩;have hKb:=held_any hKc hBb;have hKb2:=below_pre hKb hn1;obtain⟨p7,k7,c7,rfl,hx7⟩:=id hRb;clear hx7;obtain⟨x0,x1,x2,y0,y1,y2⟩:=(HV.out.1.below hKb).cells))
   rename_i hHeld
   clear hHeld
   have HVb:=HV.out.1.below hKb
   go_wp2_with fail
   exact rPower_ret rfl (HVb.store trivial trivial trivial) ⟨_,rfl,⟨_,_,rfl,((hRa.below hBc).below hBb).store3 HVb _ _ _,hRb.store3 HVb _ _ _⟩,below_set3 (HV.out.2.trans (hKb.mono (by omega))) (Nat.le_succ _)⟩
theorem lt_b5000{x:Nat}(h:x < W32 ^ 2100):x < B16 ^ 5000:=by
 generalize hA:2100=A at *;generalize hB:5000=B;rw[pow_two_k] at h;exact Nat.lt_of_lt_of_le h (Nat.pow_le_pow_right B16_pos (by omega))
theorem w64_b1000{x:Nat}(h:x < W32 ^ 64):x < B16 ^ 1000:=by
 generalize hB:1000=B;exact lt_W_B6 h (by omega)
theorem jRoundedB(s1 p1 k1 c1 q1 l1 d1 sz1 pz1 kz1 cz1 qz1 lz1 dz1 x1 y1 e1)(r:Tj)(pr:Nat)(w:World)(h:JRep w (.agg #[.bool s1,.slice p1 k1 c1,.slice q1 l1 d1,.bool sz1,.slice pz1 kz1 cz1,.slice qz1 lz1 dz1,.bool x1,.bool y1,.bool e1]) r)(hG:JFr r∧(r.1.2.1 < W32 ^ 2100∧r.1.2.2 < W32 ^ 2100)∧(r.2.1.2.1 < W32 ^ 2100∧r.2.1.2.2 < W32 ^ 2100))(hp:pr≤1000000):
  Calls Tryz.prog 47 #[.agg #[.bool s1,.slice p1 k1 c1,.slice q1 l1 d1,.bool sz1,.slice pz1 kz1 cz1,.slice qz1 lz1 dz1,.bool x1,.bool y1,.bool e1],.int .i64 (pr:Int)] w fun e w'=>∃s3 p3 k3 c3 q3 l3 d3 sz3 pz3 kz3 cz3 qz3 lz3 dz3 x3 y3 e3,e=.returned (.agg #[.bool s3,.slice p3 k3 c3,.slice q3 l3 d3,.bool sz3,.slice pz3 kz3 cz3,.slice qz3 lz3 dz3,.bool x3,.bool y3,.bool e3])∧Hid (JRep w' (.agg #[.bool s3,.slice p3 k3 c3,.slice q3 l3 d3,.bool sz3,.slice pz3 kz3 cz3,.slice qz3 lz3 dz3,.bool x3,.bool y3,.bool e3]) (jround r pr))∧Bw w w':=by
 obtain⟨h1,h2,hi,hj,he⟩:=JRep.parts s1 p1 k1 c1 q1 l1 d1 sz1 pz1 kz1 cz1 qz1 lz1 dz1 x1 y1 e1 h;obtain⟨⟨hn,hl,hh,_⟩,b1,b2⟩:=hG
 ·have hd:r.2.2.1=false→∀W,QNorm W (.agg #[.bool s1,.slice p1 k1 c1,.slice q1 l1 d1]) r.1→Calls Tryz.prog 113 #[.agg #[.bool s1,.slice p1 k1 c1,.slice q1 l1 d1],.int .i64 (pr:Int)] W fun e w'=>∃s4 p4 k4 c4 q4 l4 d4,e=.returned (.agg #[.bool s4,.slice p4 k4 c4,.slice q4 l4 d4])∧Hid (QNorm w' (.agg #[.bool s4,.slice p4 k4 c4,.slice q4 l4 d4]) (gdn r.1 pr))∧Bw W w':=by
   intro hx W q
   rcases hl with ⟨hq,_⟩ | ⟨_,hl⟩
   ·rw[hx] at hq;exact absurd hq (by decide)
   ·exact qopen (rGridDown_any (.agg #[.bool s1,.slice p1 k1 c1,.slice q1 l1 d1]) r.1 pr 5000 W q (lt_b5000 b1.1) (lt_b5000 b1.2) (by omega) hp hl.pos)
  have hu:r.2.2.2.1=false→∀W,QNorm W (.agg #[.bool sz1,.slice pz1 kz1 cz1,.slice qz1 lz1 dz1]) r.2.1→Calls Tryz.prog 114 #[.agg #[.bool sz1,.slice pz1 kz1 cz1,.slice qz1 lz1 dz1],.int .i64 (pr:Int)] W fun e w'=>∃s4 p4 k4 c4 q4 l4 d4,e=.returned (.agg #[.bool s4,.slice p4 k4 c4,.slice q4 l4 d4])∧Hid (QNorm w' (.agg #[.bool s4,.slice p4 k4 c4,.slice q4 l4 d4]) (gup r.2.1 pr))∧Bw W w':=by
   intro hx W q
   rcases hh with ⟨hq,_⟩ | ⟨_,hh⟩
   ·rw[hx] at hq;exact absurd hq (by decide)
   ·exact qopen (rGridUp_any (.agg #[.bool sz1,.slice pz1 kz1 cz1,.slice qz1 lz1 dz1]) r.2.1 pr 5000 W q (lt_b5000 b2.1) (lt_b5000 b2.2) (by omega) hp hh.pos)
  rw[hn] at he;subst he;unfold jround;rw[hn]
  cases hx:r.2.2.1<;>cases hy:r.2.2.2.1<;>rw[hx] at hi<;>rw[hy] at hj<;>subst hi hj
  ·exact jRounded_ff s1 p1 k1 c1 q1 l1 d1 sz1 pz1 kz1 cz1 qz1 lz1 dz1 pr r.1 r.2.1 w h1 h2 (hd hx) (hu hy)
  ·exact jRounded_ft s1 p1 k1 c1 q1 l1 d1 sz1 pz1 kz1 cz1 qz1 lz1 dz1 pr r.1 r.2.1 w h1 h2 (hd hx)
  ·exact jRounded_tf s1 p1 k1 c1 q1 l1 d1 sz1 pz1 kz1 cz1 qz1 lz1 dz1 pr r.1 r.2.1 w h1 h2 (hu hy)
  ·exact jRounded_tt s1 p1 k1 c1 q1 l1 d1 sz1 pz1 kz1 cz1 qz1 lz1 dz1 pr r.1 r.2.1 w h1 h2
theorem jround_bdB{r:Tj}(h:JFr r∧(r.1.2.1 < W32 ^ 2100∧r.1.2.2 < W32 ^ 2100)∧(r.2.1.2.1 < W32 ^ 2100∧r.2.1.2.2 < W32 ^ 2100)){p:Nat}(hp:p≤128):JBd (jround r p):=by
 obtain⟨⟨he,hl,hh,_⟩,h1,h2⟩:=h
 ·unfold jround;rw[he];refine⟨?_,?_⟩
  ·rcases hl with ⟨g1,g2⟩ | ⟨g1,g2⟩
   ·show(if r.2.2.1 then r.1 else gdn r.1 p).2.1 < _∧(if r.2.2.1 then r.1 else gdn r.1 p).2.2 < _;rw[g1,g2];exact⟨b16_0,b16_0⟩
   ·show(if r.2.2.1 then r.1 else gdn r.1 p).2.1 < _∧(if r.2.2.1 then r.1 else gdn r.1 p).2.2 < _;rw[g1];have:=gdn_100b (A:=2100) h1.1 (by omega) hp;exact⟨b16_100k this.1,b16_100k this.2⟩
  ·rcases hh with ⟨g1,g2⟩ | ⟨g1,g2⟩
   ·show(if r.2.2.2.1 then r.2.1 else gup r.2.1 p).2.1 < _∧(if r.2.2.2.1 then r.2.1 else gup r.2.1 p).2.2 < _;rw[g1,g2];exact⟨b16_0,b16_0⟩
   ·show(if r.2.2.2.1 then r.2.1 else gup r.2.1 p).2.1 < _∧(if r.2.2.2.1 then r.2.1 else gup r.2.1 p).2.2 < _;rw[g1];have:=gdn_100b (t:=fneg r.2.1) (A:=2100) h2.1 (by omega) hp;exact⟨b16_100k this.1,b16_100k this.2⟩
theorem jOneQ_ret{W:World}{B:Nat}{a0 a1 a2 a3 a4 a5 a6 a7 a8:Value}{tm:Array Value}{R:Ending→World→Prop}(h2:tm[2]?.getD undef=.pointer (some ⟨B,0,none⟩))(hV:Box W B #[a0,a1,a2,a3,a4,a5,a6,a7,a8])(hR:R (.returned (.agg #[a0,a1,a2,a3,a4,a5,a6,a7,a8])) W):
  bodyPost Tryz.prog Tryz.f130 R .ret {tmps:=tm,defers:=[]} W:=by
 obtain⟨g0,g1,g2,g3,g4,g5,g6,g7,g8,_⟩:=hV.cells9;exact bodyPost_ret (v:=.agg #[a0,a1,a2,a3,a4,a5,a6,a7,a8]) (by simp [results,Tryz.results130,go_sem,h2,g0,g1,g2,g3,g4,g5,g6,g7,g8]) rfl hR
theorem jOneQ_any(s6 p6 k6 c6 q6 l6 d6)(t:Tq)(w:World)(h:QNorm w (.agg #[.bool s6,.slice p6 k6 c6,.slice q6 l6 d6]) t):
  Calls Tryz.prog 130 #[.agg #[.bool s6,.slice p6 k6 c6,.slice q6 l6 d6]] w fun e w'=>∃s3 p3 k3 c3 q3 l3 d3 sz3 pz3 kz3 cz3 qz3 lz3 dz3 x3 y3 e3,e=.returned (.agg #[.bool s3,.slice p3 k3 c3,.slice q3 l3 d3,.bool sz3,.slice pz3 kz3 cz3,.slice qz3 lz3 dz3,.bool x3,.bool y3,.bool e3])∧Hid (JRep w' (.agg #[.bool s3,.slice p3 k3 c3,.slice q3 l3 d3,.bool sz3,.slice pz3 kz3 cz3,.slice qz3 lz3 dz3,.bool x3,.bool y3,.bool e3]) (t,t,false,false,false))∧Bw w w':=by
 have HQ:=hid h;clear h;go_enter Tryz.func130,Tryz.ntmps130;go_upto_region 1 with fail;generalize hA:World.alloc _ _=W0;have HV:=hid (pre2_o hA nd3 nd9);clear hA;obtain⟨m0,m1,m2,_⟩:=HV.out.1.cells3;obtain⟨g0,g1,g2,g3,g4,g5,g6,g7,g8,f0,f1,f2,f3,f4,f5,f6,f7,f8⟩:=HV.out.2.1.cells9;go_wp2_with fail;exact jOneQ_ret rfl (HV.out.2.1.stores [.bool s6,.slice p6 k6 c6,.slice q6 l6 d6,.bool s6,.slice p6 k6 c6,.slice q6 l6 d6,.bool false,.bool false,.bool false] rfl nd9) ⟨_,_,_,_,_,_,_,_,_,_,_,_,_,_,_,_,_,rfl,hid (JRep.stores (k:=0) (l:=[.bool s6,.slice p6 k6 c6,.slice q6 l6 d6,.bool s6,.slice p6 k6 c6,.slice q6 l6 d6,.bool false,.bool false,.bool false]) ⟨_,_,_,_,_,_,_,_,_,_,_,_,_,_,_,_,_,rfl,HQ.out.below HV.out.2.2,HQ.out.below HV.out.2.2,rfl,rfl,rfl⟩ HV.out.2.1 nd9),Below.stores (k:=0) (l:=[.bool s6,.slice p6 k6 c6,.slice q6 l6 d6,.bool s6,.slice p6 k6 c6,.slice q6 l6 d6,.bool false,.bool false,.bool false]) HV.out.2.2 (by omega)⟩
theorem jPow_q{A lo:Tq}{k:Nat}(h:zrel A false lo)(q:QFit A)(hk:k < 256):
  Hid (∀W s6 p6 k6 c6 q6 l6 d6,QNorm W (.agg #[.bool s6,.slice p6 k6 c6,.slice q6 l6 d6]) lo→Calls Tryz.prog 132 #[.agg #[.bool s6,.slice p6 k6 c6,.slice q6 l6 d6],.int .i64 (k:Int)] W fun e w'=>∃s5 p5 k5 c5 q5 l5 d5,e=.returned (.agg #[.bool s5,.slice p5 k5 c5,.slice q5 l5 d5])∧Hid (QNorm w' (.agg #[.bool s5,.slice p5 k5 c5,.slice q5 l5 d5]) (fpow A k))∧Bw W w'):=by
 refine hid fun W s6 p6 k6 c6 q6 l6 d6 hq=>qopen (t:=fpow A k) ?_
 rcases h with rfl | ⟨rfl,rfl⟩
 ·exact rPowerR_any lo.2.2 _ lo k W hq (den1_self q.1.pos) (w64_b1000 q.2.1) (w64_b1000 q.2.2) hk
 ·exact rPowerR_any 0 _ (false,0,1) k W hq rfl (w64_b1000 q.2.1) (w64_b1000 q.2.2) hk
theorem jint_q3(n:Nat)(hn:n≤1):Hid (∀W,Calls Tryz.prog 30 #[.int .i64 (n:Int)] W fun e w'=>∃s5 p5 k5 c5 q5 l5 d5,e=.returned (.agg #[.bool s5,.slice p5 k5 c5,.slice q5 l5 d5])∧Hid (QNorm w' (.agg #[.bool s5,.slice p5 k5 c5,.slice q5 l5 d5]) (false,n,1))∧Bw W w'):=by
 refine hid fun W=>qopen (t:=(false,n,1)) ?_
 have k:=rInt_any (n:Int) W (by omega) (by omega)
 have e1:mkq (decide ((n:Int) < 0)) (n:Int).natAbs 1=(false,n,1):=by
  have:n=0∨n=1:=by omega
  rcases this with rfl | rfl<;>decide
 rw[e1] at k;exact k
theorem zrel.zs{A lo:Tq}{x:Bool}(h:zrel A x lo)(q:x=false→QFit A):lo.2.1=0→lo.1=false:=by
 cases x
 ·rcases h with rfl | ⟨rfl,_⟩
  ·exact(q rfl).1.zs
  ·exact fun _=>rfl
 ·have h:lo=(false,0,0):=h;subst h
  exact fun _=>rfl
theorem jSizeZ_any(s1 p1 k1 c1 q1 l1 d1 sz1 pz1 kz1 cz1 qz1 lz1 dz1 x1 y1 e1){A B lo hi:Tq}{x y:Bool}(w:World)(h:JRep w (.agg #[.bool s1,.slice p1 k1 c1,.slice q1 l1 d1,.bool sz1,.slice pz1 kz1 cz1,.slice qz1 lz1 dz1,.bool x1,.bool y1,.bool e1]) (lo,hi,x,y,false))(zA:zrel A x lo)(zB:zrel B y hi)(qA:x=false→QFit A)(qB:y=false→QFit B):
  Calls Tryz.prog 131 #[.agg #[.bool s1,.slice p1 k1 c1,.slice q1 l1 d1,.bool sz1,.slice pz1 kz1 cz1,.slice qz1 lz1 dz1,.bool x1,.bool y1,.bool e1]] w fun e w'=>∃s3 p3 k3 c3 q3 l3 d3 sz3 pz3 kz3 cz3 qz3 lz3 dz3 x3 y3 e3,e=.returned (.agg #[.bool s3,.slice p3 k3 c3,.slice q3 l3 d3,.bool sz3,.slice pz3 kz3 cz3,.slice qz3 lz3 dz3,.bool x3,.bool y3,.bool e3])∧Hid (JRep w' (.agg #[.bool s3,.slice p3 k3 c3,.slice q3 l3 d3,.bool sz3,.slice pz3 kz3 cz3,.slice qz3 lz3 dz3,.bool x3,.bool y3,.bool e3]) (jsize (lo,hi,x,y,false)))∧Bw w w':=by
 obtain⟨h1,h2,rfl,rfl,rfl⟩:=JRep.parts s1 p1 k1 c1 q1 l1 d1 sz1 pz1 kz1 cz1 qz1 lz1 dz1 x1 y1 e1 h
 have hg:∀W,Bw w W→Calls Tryz.prog 186 #[.agg #[.bool s1,.slice p1 k1 c1,.slice q1 l1 d1,.bool sz1,.slice pz1 kz1 cz1,.slice qz1 lz1 dz1,.bool x1,.bool y1,.bool false]] W fun e w'=>e=.returned (.int .i64 (jsg (lo,hi,x1,y1,false)))∧Bw W w':=by
  intro W hW;have g1:=h1.below hW;have g2:=h2.below hW;exact jSignOf_some (sgn lo.1 lo.2.1) (sgn hi.1 hi.2.1) _ s1 p1 k1 c1 q1 l1 d1 sz1 pz1 kz1 cz1 qz1 lz1 dz1 x1 y1 W rfl (fun W' hW'=>Sgn_any (.agg #[.bool s1,.slice p1 k1 c1,.slice q1 l1 d1]) lo W' (g1.below hW') (zA.zs qA)) (fun W' hW'=>Sgn_any (.agg #[.bool sz1,.slice pz1 kz1 cz1,.slice qz1 lz1 dz1]) hi W' (g2.below hW') (zB.zs qB))
 unfold jsize
 by_cases hm:jsg (lo,hi,x1,y1,false)=-2∨jsg (lo,hi,x1,y1,false)=-1
 ·rw[if_pos hm];exact jSize_neg s1 p1 k1 c1 q1 l1 d1 sz1 pz1 kz1 cz1 qz1 lz1 dz1 x1 y1 false _ _ w h hm hg
 ·rw[if_neg hm]
  by_cases h3:jsg (lo,hi,x1,y1,false)=3
  ·rw[if_pos h3];rw[h3] at hg;unfold jmix;cases hxy:(x1 || y1)
   ·rw[Bool.or_eq_false_iff] at hxy;obtain⟨rfl,rfl⟩:=hxy;have hs:sgo false false (sgn lo.1 lo.2.1) (sgn hi.1 hi.2.1)=3:=h3
    have n1:sgn lo.1 lo.2.1≠0:=by
     intro h0;rw[h0] at hs;unfold sgo at hs
     revert hs
     simp only[Bool.not_false,Bool.true_and,show decide ((0:Int)≤0)=true from rfl,if_true,show decide ((0:Int) < 0)=false from rfl]
     split
     ·decide
     ·decide
    have n2:sgn hi.1 hi.2.1≠0:=by
     intro h0;rw[h0] at hs;unfold sgo at hs
     revert hs
     simp only[Bool.not_false,Bool.true_and,show decide ((0:Int)≤0)=true from rfl,if_true,show decide ((0:Int) < 0)=false from rfl]
     split
     ·decide
     ·decide
    have e1:lo=A:=zA.nz (by rw[←zA.sgn];exact n1);have e2:hi=B:=zB.nz (by rw[←zB.sgn];exact n2);subst e1 e2;exact jSize_fin s1 p1 k1 c1 q1 l1 d1 sz1 pz1 kz1 cz1 qz1 lz1 dz1 false lo hi w h1 h2 (qA rfl).ok (qB rfl).ok hg
   ·exact jSize_inf s1 p1 k1 c1 q1 l1 d1 sz1 pz1 kz1 cz1 qz1 lz1 dz1 x1 y1 false w hxy hg
  ·rw[if_neg h3];refine jSize_id s1 p1 k1 c1 q1 l1 d1 sz1 pz1 kz1 cz1 qz1 lz1 dz1 x1 y1 false (jsg (lo,hi,x1,y1,false)) _ w h ?_ hg;have:=sgo_cases x1 y1 (sgn lo.1 lo.2.1) (sgn hi.1 hi.2.1);have e:jsg (lo,hi,x1,y1,false)=sgo x1 y1 (sgn lo.1 lo.2.1) (sgn hi.1 hi.2.1):=rfl;rw[e] at hm h3 ⊢;simp at hm h3 ⊢;omega
theorem pabs_fit{A B:Tq}{x y:Bool}(qA:x=false→QFit A)(qB:y=false→QFit B):((pabs A B x y).2.2.1=false→QFit (pabs A B x y).1)∧((pabs A B x y).2.2.2=false→QFit (pabs A B x y).2.1):=by
 unfold pabs
 split
 ·exact⟨qA,qB⟩
 ·split
  ·exact⟨fun h=>(qB h).neg,fun h=>(qA h).neg⟩
  ·refine⟨fun _=>QFit.zero,fun h=>?_⟩;have h:(x || y)=false:=h;rw[Bool.or_eq_false_iff] at h;exact(qA h.1).neg.max (qB h.2)
theorem jRaise_any(s1 p1 k1 c1 q1 l1 d1 sz1 pz1 kz1 cz1 qz1 lz1 dz1 x1 y1 e1){A B lo hi:Tq}{x y:Bool}(k:Nat)(w:World)(h:JRep w (.agg #[.bool s1,.slice p1 k1 c1,.slice q1 l1 d1,.bool sz1,.slice pz1 kz1 cz1,.slice qz1 lz1 dz1,.bool x1,.bool y1,.bool e1]) (lo,hi,x,y,false))(zA:zrel A x lo)(zB:zrel B y hi)(qA:x=false→QFit A)(qB:y=false→QFit B)(hord:pord A B x y)(g1:1≤k)(g2:k≤32):
  Calls Tryz.prog 62 #[.agg #[.bool s1,.slice p1 k1 c1,.slice q1 l1 d1,.bool sz1,.slice pz1 kz1 cz1,.slice qz1 lz1 dz1,.bool x1,.bool y1,.bool e1],.int .i64 (k:Int)] w fun e w'=>∃s3 p3 k3 c3 q3 l3 d3 sz3 pz3 kz3 cz3 qz3 lz3 dz3 x3 y3 e3,e=.returned (.agg #[.bool s3,.slice p3 k3 c3,.slice q3 l3 d3,.bool sz3,.slice pz3 kz3 cz3,.slice qz3 lz3 dz3,.bool x3,.bool y3,.bool e3])∧Hid (JRep w' (.agg #[.bool s3,.slice p3 k3 c3,.slice q3 l3 d3,.bool sz3,.slice pz3 kz3 cz3,.slice qz3 lz3 dz3,.bool x3,.bool y3,.bool e3]) (mkJ (ppos A B x y k).1 (ppos A B x y k).2.1 (ppos A B x y k).2.2.1 (ppos A B x y k).2.2.2))∧Bw w w':=by
 have z0:((k:Int) == 0)=false:=by
  have:(k:Int)≠0:=by omega
  simpa using this
 have z2:=tmod_ev k;obtain⟨_,_,rfl,rfl,rfl⟩:=JRep.parts s1 p1 k1 c1 q1 l1 d1 sz1 pz1 kz1 cz1 qz1 lz1 dz1 x1 y1 e1 h;unfold ppos
 by_cases hev:k % 2=0
 ·rw[decide_eq_true hev] at z2;rw[if_pos hev];obtain⟨lo',hi',hJ,zl,zh⟩:=jsize_z zA zB;have hq:=pabs_fit (x:=x1) (y:=y1) qA qB;have hx0:=(pabs_ord hord).2.2;have HZ:=hid (fun (W:World) s2 p2 k2 c2 q2 l2 d2 sz2 pz2 kz2 cz2 qz2 lz2 dz2 x2 y2 e2 (_:Bw w W) (hj:JRep W (.agg #[.bool s2,.slice p2 k2 c2,.slice q2 l2 d2,.bool sz2,.slice pz2 kz2 cz2,.slice qz2 lz2 dz2,.bool x2,.bool y2,.bool e2]) (lo,hi,x1,y1,false))=>jSizeZ_any s2 p2 k2 c2 q2 l2 d2 sz2 pz2 kz2 cz2 qz2 lz2 dz2 x2 y2 e2 W hj zA zB qA qB);rw[hJ] at HZ;generalize pabs A B x1 y1=P at *;obtain⟨PA,PB,px,py⟩:=P;have hx0:px=false:=hx0;subst hx0;cases py
  ·exact jRsd_eff s1 p1 k1 c1 q1 l1 d1 sz1 pz1 kz1 cz1 qz1 lz1 dz1 x1 y1 (k:Int) lo' hi' (fpow PA k) (fpow PB k) _ w h z0 z2 HZ (jPow_q zl (hq.1 rfl) (by omega)) (jPow_q zh (hq.2 rfl) (by omega))
  ·have zh:hi'=(false,0,0):=zh;exact jRsd_eft s1 p1 k1 c1 q1 l1 d1 sz1 pz1 kz1 cz1 qz1 lz1 dz1 x1 y1 (k:Int) lo' hi' (fpow PA k) _ w h z0 z2 HZ (jPow_q zl (hq.1 rfl) (by omega))
 ·rw[decide_eq_false hev] at z2;rw[if_neg hev]
  cases x1<;>cases y1
  ·exact jRsd_off s1 p1 k1 c1 q1 l1 d1 sz1 pz1 kz1 cz1 qz1 lz1 dz1 (k:Int) lo hi (fpow A k) (fpow B k) _ w h z0 z2 rfl (jPow_q zA (qA rfl) (by omega)) (jPow_q zB (qB rfl) (by omega))
  ·exact jRsd_oft s1 p1 k1 c1 q1 l1 d1 sz1 pz1 kz1 cz1 qz1 lz1 dz1 (k:Int) lo hi (fpow A k) _ w h z0 z2 rfl (jPow_q zA (qA rfl) (by omega))
  ·exact jRsd_otf s1 p1 k1 c1 q1 l1 d1 sz1 pz1 kz1 cz1 qz1 lz1 dz1 (k:Int) lo hi (fpow B k) _ w h z0 z2 rfl (jPow_q zB (qB rfl) (by omega))
  ·exact jRsd_ott s1 p1 k1 c1 q1 l1 d1 sz1 pz1 kz1 cz1 qz1 lz1 dz1 (k:Int) lo hi _ w h z0 z2 rfl
theorem fneg2{t:Tq}(h:IsFr t):fneg (fneg t)=t:=by
 obtain⟨s,n,d⟩:=t;have hz:=h.zs;show((!(!s && decide (n≠0)) && decide (n≠0)),n,d)=(s,n,d)
 by_cases h0:n=0
 ·have:s=false:=hz h0;subst this;simp [h0]
 ·simp [h0]
theorem frinv_neg{t:Tq}(hz:t.2.1≠0)(hd:0 < t.2.2):fneg (frinv (fneg t))=frinv t:=by
 obtain⟨s,n,d⟩:=t;have hz:n≠0:=hz;have hd:0 < d:=hd
 have e1:frinv (fneg (s,n,d))=fneg (frinv (s,n,d)):=by
  have e0:fneg (s,n,d)=(!s,n,d):=by
   show(!s && decide (n≠0),n,d)=_;simp [hz]
  rw[e0];show frac (!s) d n=fneg (frac s d n);unfold fneg frac
  have hq:d / Nat.gcd d n≠0:=by
   have h1:=Nat.div_mul_cancel (Nat.gcd_dvd_left d n);intro h0;rw[h0] at h1;omega
  have hd':d≠0:=by omega
  simp [hq,hd']
 rw[e1];exact fneg2 (frinv_fr hz)
theorem jdiv_q{A:Tq}(q:QFit A)(hz:A.2.1≠0){w:World}(s1 p1 k1 c1 q1 l1 d1)(h:QNorm w (.agg #[.bool s1,.slice p1 k1 c1,.slice q1 l1 d1]) A):
  Hid (∀W s6 p6 k6 c6 q6 l6 d6,Bw w W→QNorm W (.agg #[.bool s6,.slice p6 k6 c6,.slice q6 l6 d6]) (false,1,1)→Calls Tryz.prog 121 #[.agg #[.bool s6,.slice p6 k6 c6,.slice q6 l6 d6],.agg #[.bool s1,.slice p1 k1 c1,.slice q1 l1 d1]] W fun e w'=>∃s5 p5 k5 c5 q5 l5 d5,e=.returned (.agg #[.bool s5,.slice p5 k5 c5,.slice q5 l5 d5])∧Hid (QNorm w' (.agg #[.bool s5,.slice p5 k5 c5,.slice q5 l5 d5]) (frinv A))∧Bw W w'):=by
 refine hid fun W s6 p6 k6 c6 q6 l6 d6 hW hq=>qopen (t:=frinv A) ?_
 have o1:(1:Nat) < B16 ^ 1000:=w64_b1000 (Nat.one_lt_pow (by omega) (by decide));have k:=rDiv_any _ _ (false,1,1) A 1000 W hq (h.below hW) o1 o1 (w64_b1000 q.2.1) (w64_b1000 q.2.2) (by omega) (by decide) q.1.pos (Nat.pos_of_ne_zero hz)
 have e:frac ((false:Bool) != A.1) (1*A.2.2) (1*A.2.1)=frinv A:=by
  unfold frinv;rw[Nat.one_mul,Nat.one_mul]
  cases A.1<;>rfl
 rw[e] at k;exact k
theorem jInvP_any(s1 p1 k1 c1 q1 l1 d1 sz1 pz1 kz1 cz1 qz1 lz1 dz1 x1 y1 e1){A B:Tq}{y:Bool}(w:World)(h:JRep w (.agg #[.bool s1,.slice p1 k1 c1,.slice q1 l1 d1,.bool sz1,.slice pz1 kz1 cz1,.slice qz1 lz1 dz1,.bool x1,.bool y1,.bool e1]) (mkJ A B false y))(qA:QFit A)(qB:y=false→QFit B)(hA:0 < sgn A.1 A.2.1)(hB:y=false→B.2.1≠0):
  Calls Tryz.prog 53 #[.agg #[.bool s1,.slice p1 k1 c1,.slice q1 l1 d1,.bool sz1,.slice pz1 kz1 cz1,.slice qz1 lz1 dz1,.bool x1,.bool y1,.bool e1]] w fun e w'=>∃s3 p3 k3 c3 q3 l3 d3 sz3 pz3 kz3 cz3 qz3 lz3 dz3 x3 y3 e3,e=.returned (.agg #[.bool s3,.slice p3 k3 c3,.slice q3 l3 d3,.bool sz3,.slice pz3 kz3 cz3,.slice qz3 lz3 dz3,.bool x3,.bool y3,.bool e3])∧Hid (JRep w' (.agg #[.bool s3,.slice p3 k3 c3,.slice q3 l3 d3,.bool sz3,.slice pz3 kz3 cz3,.slice qz3 lz3 dz3,.bool x3,.bool y3,.bool e3]) (if y then (false,0,0) else frinv B,frinv A,false,false,false))∧Bw w w':=by
 obtain⟨h1,h2,rfl,rfl,rfl⟩:=JRep.parts s1 p1 k1 c1 q1 l1 d1 sz1 pz1 kz1 cz1 qz1 lz1 dz1 x1 y1 e1 h;have h1:QNorm w (.agg #[.bool s1,.slice p1 k1 c1,.slice q1 l1 d1]) A:=h1;have nA:=(sgn_ps hA).2
 have HG:Hid (∀W,Bw w W→Calls Tryz.prog 65 #[.agg #[.bool s1,.slice p1 k1 c1,.slice q1 l1 d1]] W fun e w'=>e=.returned (.int .i64 (sgn A.1 A.2.1))∧Bw W w'):=hid fun W hW=>Sgn_any _ _ W (h1.below hW) qA.1.zs
 have hg:decide (sgn A.1 A.2.1 < 0)=false:=decide_eq_false (by omega);cases y1
 ·have h2:QNorm w (.agg #[.bool sz1,.slice pz1 kz1 cz1,.slice qz1 lz1 dz1]) B:=h2;exact jInv_pos s1 p1 k1 c1 q1 l1 d1 sz1 pz1 kz1 cz1 qz1 lz1 dz1 (false,1,1) (frinv A) (frinv B) w _ HG hg (jint_q3 1 (by omega)) (jdiv_q qA nA s1 p1 k1 c1 q1 l1 d1 h1) (jdiv_q (qB rfl) (hB rfl) sz1 pz1 kz1 cz1 qz1 lz1 dz1 h2)
 ·exact jInv_pos_inf s1 p1 k1 c1 q1 l1 d1 sz1 pz1 kz1 cz1 qz1 lz1 dz1 (false,1,1) (frinv A) w _ HG hg (jint_q3 1 (by omega)) (jdiv_q qA nA s1 p1 k1 c1 q1 l1 d1 h1)
theorem jInv_any(s1 p1 k1 c1 q1 l1 d1 sz1 pz1 kz1 cz1 qz1 lz1 dz1 x1 y1 e1){A B:Tq}{x y:Bool}(w:World)(h:JRep w (.agg #[.bool s1,.slice p1 k1 c1,.slice q1 l1 d1,.bool sz1,.slice pz1 kz1 cz1,.slice qz1 lz1 dz1,.bool x1,.bool y1,.bool e1]) (mkJ A B x y))(qA:x=false→QFit A)(qB:y=false→QFit B)(hord:pord A B x y)(hs:pside A B x y):
  Calls Tryz.prog 53 #[.agg #[.bool s1,.slice p1 k1 c1,.slice q1 l1 d1,.bool sz1,.slice pz1 kz1 cz1,.slice qz1 lz1 dz1,.bool x1,.bool y1,.bool e1]] w fun e w'=>∃s3 p3 k3 c3 q3 l3 d3 sz3 pz3 kz3 cz3 qz3 lz3 dz3 x3 y3 e3,e=.returned (.agg #[.bool s3,.slice p3 k3 c3,.slice q3 l3 d3,.bool sz3,.slice pz3 kz3 cz3,.slice qz3 lz3 dz3,.bool x3,.bool y3,.bool e3])∧Hid (JRep w' (.agg #[.bool s3,.slice p3 k3 c3,.slice q3 l3 d3,.bool sz3,.slice pz3 kz3 cz3,.slice qz3 lz3 dz3,.bool x3,.bool y3,.bool e3]) (if y then (false,0,0) else frinv B,if x then (false,0,0) else frinv A,false,false,false))∧Bw w w':=by
 obtain⟨nA,nB,_,_,_⟩:=pside_nz hord hs;have hs0:=hs
 rcases hs with ⟨rfl,hs⟩ | ⟨rfl,hs⟩
 ·exact jInvP_any s1 p1 k1 c1 q1 l1 d1 sz1 pz1 kz1 cz1 qz1 lz1 dz1 x1 y1 e1 w h (qA rfl) qB hs nB
 ·have hB:=qB rfl;have sB:=sgn_ng hs
  have pB:0 < sgn (fneg B).1 (fneg B).2.1:=by
   have n0:=nB rfl
   have e:fneg B=(false,B.2.1,B.2.2):=by
    show(!B.1 && decide (B.2.1≠0),B.2.1,B.2.2)=_;rw[sB];rfl
   rw[e];show 0 < (if (false:Bool)=true then (-1:Int) else if B.2.1=0 then 0 else 1);rw[if_neg (by decide),if_neg n0];decide
  obtain⟨h1,h2,rfl,rfl,rfl⟩:=JRep.parts s1 p1 k1 c1 q1 l1 d1 sz1 pz1 kz1 cz1 qz1 lz1 dz1 x1 y1 e1 h
  have em:jminus (mkJ A B x1 false)=mkJ (fneg B) (fneg A) false x1:=by
   cases x1<;>rfl
  have HM1:=hid (fun (W:World) s5 p5 k5 c5 q5 l5 d5 sz5 pz5 kz5 cz5 qz5 lz5 dz5 x5 y5 e5 (_:Bw w W) (hj:JRep W (.agg #[.bool s5,.slice p5 k5 c5,.slice q5 l5 d5,.bool sz5,.slice pz5 kz5 cz5,.slice qz5 lz5 dz5,.bool x5,.bool y5,.bool e5]) (mkJ A B x1 false))=>jMinus_any s5 p5 k5 c5 q5 l5 d5 sz5 pz5 kz5 cz5 qz5 lz5 dz5 x5 y5 e5 _ W hj);have HM2:=hid (fun (W:World) s5 p5 k5 c5 q5 l5 d5 sz5 pz5 kz5 cz5 qz5 lz5 dz5 x5 y5 e5 (_:Bw w W) (hj:JRep W (.agg #[.bool s5,.slice p5 k5 c5,.slice q5 l5 d5,.bool sz5,.slice pz5 kz5 cz5,.slice qz5 lz5 dz5,.bool x5,.bool y5,.bool e5]) (jminus (mkJ A B x1 false)))=>jInvP_any (A:=fneg B) (B:=fneg A) (y:=x1) s5 p5 k5 c5 q5 l5 d5 sz5 pz5 kz5 cz5 qz5 lz5 dz5 x5 y5 e5 W (by rw[←em];exact hj) hB.neg (fun hx=>(qA hx).neg) pB (fun hx=>by show A.2.1≠0;exact nA hx));have HM3:=hid (fun (W:World) s5 p5 k5 c5 q5 l5 d5 sz5 pz5 kz5 cz5 qz5 lz5 dz5 x5 y5 e5 (_:Bw w W) (hj:JRep W (.agg #[.bool s5,.slice p5 k5 c5,.slice q5 l5 d5,.bool sz5,.slice pz5 kz5 cz5,.slice qz5 lz5 dz5,.bool x5,.bool y5,.bool e5]) ((if x1 then (false,0,0) else frinv (fneg A),frinv (fneg B),false,false,false):Tj))=>jMinus_any s5 p5 k5 c5 q5 l5 d5 sz5 pz5 kz5 cz5 qz5 lz5 dz5 x5 y5 e5 _ W hj)
  have er:jminus ((if x1 then (false,0,0) else frinv (fneg A),frinv (fneg B),false,false,false):Tj)=(frinv B,if x1 then (false,0,0) else frinv A,false,false,false):=by
   show(fneg (frinv (fneg B)),fneg (if x1 then (false,0,0) else frinv (fneg A)),false,false,false)=_;rw[frinv_neg (nB rfl) hB.1.pos];cases x1
   ·show(frinv B,fneg (frinv (fneg A)),false,false,false)=_;rw[frinv_neg (nA rfl) (qA rfl).1.pos];rfl
   ·rfl
  rw[er] at HM3;cases x1
  ·have h1:QNorm w (.agg #[.bool s1,.slice p1 k1 c1,.slice q1 l1 d1]) A:=h1
   have sA:sgn A.1 A.2.1 < 0:=by
    have:=sgn_mono (hord.1 rfl) (hord.2.1 rfl) (hord.2.2 rfl rfl);omega
   exact jInv_neg s1 p1 k1 c1 q1 l1 d1 sz1 pz1 kz1 cz1 qz1 lz1 dz1 false _ _ _ _ w h (sgn A.1 A.2.1) (hid fun W hW=>Sgn_any _ _ W (h1.below hW) (qA rfl).1.zs) (decide_eq_true sA) HM1 HM2 HM3
  ·exact jInv_neg_inf s1 p1 k1 c1 q1 l1 d1 sz1 pz1 kz1 cz1 qz1 lz1 dz1 false _ _ _ _ w h HM1 HM2 HM3
theorem pinv_z(A B:Tq)(x y:Bool):zrel (pinv A B x y).1 false (if y then (false,0,0) else frinv B)∧zrel (pinv A B x y).2 false (if x then (false,0,0) else frinv A):=by
 constructor
 ·cases y
  ·exact .inl rfl
  ·exact .inr ⟨rfl,rfl⟩
 ·cases x
  ·exact .inl rfl
  ·exact .inr ⟨rfl,rfl⟩
end Go.Proofs.YtheojajaefjecaaGreatDoor
