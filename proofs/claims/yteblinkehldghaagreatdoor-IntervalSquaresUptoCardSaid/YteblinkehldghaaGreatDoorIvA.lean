/- Ends and sets of the program: reading. -/
import Derived.Test.YteblinkehldghaaGreatDoorBox
import Derived.WalkSmall
namespace Go.Proofs.YteblinkehldghaaGreatDoor
open Go.RowKit Dg
def pan (c:Int):Ending:=.panicked [{v:=.iface 27 (.int .i64 c),recovered:=false}]
def ERep (w:World) (v:Value) (x:Int×Tq):Prop:=∃vn vd,v=.agg #[.int .i64 x.1,.bool x.2.1,vn,vd]∧Rep W32 w vn x.2.2.1∧Rep W32 w vd x.2.2.2
theorem ERep.below{w w':World}{v:Value}{x:Int×Tq}(h:ERep w v x)(hb:Bw w w'):ERep w' v x:=by
 obtain⟨vn,vd,hv,h1,h2⟩:=h;exact⟨vn,vd,hv,h1.below hb,h2.below hb⟩
theorem ERep.mk{w:World}{i s p k c q l d}{x:Int×Tq}(hi:i=x.1)(h:FNorm w (.agg #[.bool s,.slice p k c,.slice q l d]) x.2):ERep w (.agg #[.int .i64 i,.bool s,.slice p k c,.slice q l d]) x:=by
 obtain⟨vn,vd,hv,h1,h2⟩:=h;have e:=Value.agg.inj hv;simp at e;obtain⟨rfl,rfl,rfl⟩:=e;exact⟨_,_,by rw[hi],h1,h2⟩
theorem ERep.frac{w:World}{i s p k c q l d}{x:Int×Tq}(h:ERep w (.agg #[.int .i64 i,.bool s,.slice p k c,.slice q l d]) x):i=x.1∧FNorm w (.agg #[.bool s,.slice p k c,.slice q l d]) x.2:=by
 obtain⟨vn,vd,hv,h1,h2⟩:=h;have e:=Value.agg.inj hv;simp at e;obtain⟨rfl,rfl,rfl,rfl⟩:=e;exact⟨rfl,_,_,rfl,h1,h2⟩
structure EOk (k:Nat) (x:Int×Tq):Prop where
 fin:x.1=0→IsFr x.2
 inf:x.1≠0→(x.1=1∨x.1=-1)∧x.2=(false,0,0)
 bn:x.2.2.1 < W32 ^ k
 bd:x.2.2.2 < W32 ^ k
theorem EOk.le{k m:Nat}{x:Int×Tq}(h:EOk k x)(hk:k≤m):EOk m x:=⟨h.fin,h.inf,lt_pow h.bn hk,lt_pow h.bd hk⟩
def ecmp (a b:Int×Tq):Int:=if a.1≠0∨b.1≠0 then cmpI a.1 b.1 else fcmp a.2 b.2
theorem finite_any(s p k c q l d)(w:World):
  Calls Tryz.prog 90 #[.agg #[.bool s,.slice p k c,.slice q l d]] w fun e w'=>e=.returned (.agg #[.int .i64 0,.bool s,.slice p k c,.slice q l d])∧Bw w w':=by
 go_enter Tryz.func90,Tryz.ntmps90;go_wp2_with fail;refine bodyPost_ret (v:=.agg #[.int .i64 0,.bool s,.slice p k c,.slice q l d]) (by simp [results,Tryz.results90,go_sem]) rfl ⟨rfl,?_⟩;exact below_alloc2 _ _ _
theorem unless_ok(c)(w:World):Calls Tryz.prog 74 #[.bool true,.int .i64 c] w fun e w'=>e=.returned (.tuple #[])∧w=w':=by
 go_enter Tryz.func74,Tryz.ntmps74;go_wp2_with fail;exact bodyPost_end (v:=.tuple #[]) (by simp [results,Tryz.results74,go_sem]) rfl ⟨rfl,rfl⟩
theorem unless_no(c)(w:World):Calls Tryz.prog 74 #[.bool false,.int .i64 c] w fun e w'=>e=pan c∧w=w':=by
 go_enter Tryz.func74,Tryz.ntmps74;go_wp2_with fail;exact⟨rfl,rfl,rfl⟩
theorem mustF_ok(s p k c q l d)(w:World):
  Calls Tryz.prog 116 #[.agg #[.bool s,.slice p k c,.slice q l d],.int .i64 0] w fun e w'=>e=.returned (.agg #[.bool s,.slice p k c,.slice q l d])∧Bw w w':=by
 go_enter Tryz.func116,Tryz.ntmps116;go_wp2_with fail;refine(unless_ok 0 _).mono ?_;rintro e w1 ⟨rfl,rfl⟩;go_wp2_with fail;refine bodyPost_ret (v:=.agg #[.bool s,.slice p k c,.slice q l d]) (by simp [results,Tryz.results116,go_sem]) rfl ⟨rfl,?_⟩;exact below_alloc2 _ _ _
theorem mustF_err(s p k c q l d er)(h:er≠0)(w:World):
  Calls Tryz.prog 116 #[.agg #[.bool s,.slice p k c,.slice q l d],.int .i64 er] w fun e w'=>e=pan er∧Bw w w':=by
 go_enter Tryz.func116,Tryz.ntmps116
 have hz:(er == 0)=false:=by simpa using h
 clear h;go_wp2_with fail;refine(unless_no er _).mono ?_;rintro e w1 ⟨rfl,rfl⟩;exact⟨rfl,rfl,below_alloc2 _ _ _⟩
theorem mustR_ok(s p k c q l d)(w:World):
  Calls Tryz.prog 144 #[.agg #[.bool s,.slice p k c,.slice q l d],.int .i64 0] w fun e w'=>e=.returned (.agg #[.bool s,.slice p k c,.slice q l d])∧Bw w w':=by
 go_enter Tryz.func144,Tryz.ntmps144;go_wp2_with fail;refine(unless_ok 0 _).mono ?_;rintro e w1 ⟨rfl,rfl⟩;go_wp2_with fail;refine bodyPost_ret (v:=.agg #[.bool s,.slice p k c,.slice q l d]) (by simp [results,Tryz.results144,go_sem]) rfl ⟨rfl,?_⟩;exact below_alloc2 _ _ _
theorem mustR_err(s p k c q l d er)(h:er≠0)(w:World):
  Calls Tryz.prog 144 #[.agg #[.bool s,.slice p k c,.slice q l d],.int .i64 er] w fun e w'=>e=pan er∧Bw w w':=by
 go_enter Tryz.func144,Tryz.ntmps144
 have hz:(er == 0)=false:=by simpa using h
 clear h;go_wp2_with fail;refine(unless_no er _).mono ?_;rintro e w1 ⟨rfl,rfl⟩;exact⟨rfl,rfl,below_alloc2 _ _ _⟩
theorem read_ret{W:World}{B:Nat}{a0 a1 a2 a3:Value}{tm:Array Value}{R:Ending→World→Prop}(h2:tm[2]?.getD undef=.pointer (some ⟨B,0,none⟩))(hV:Box W B #[a0,a1,a2,a3])(hR:R (.returned (.agg #[a0,a1,a2,a3])) W):
  bodyPost Tryz.prog Tryz.f141 R .ret {tmps:=tm,defers:=[]} W:=by
 obtain⟨g0,g1,g2,g3,_⟩:=hV.cells4;exact bodyPost_ret (v:=.agg #[a0,a1,a2,a3]) (by simp [results,Tryz.results141,go_sem,h2,g0,g1,g2,g3]) rfl hR
theorem read_ok(v:Value)(t:Tq)(w:World)(h:NRep w v t)(hl:large t.2.1 t.2.2=false)(ht:TabOk w):
  Calls Tryz.prog 141 #[v] w fun e w'=>∃s p k c q l d,e=.returned (.agg #[.int .i64 0,.bool s,.slice p k c,.slice q l d])∧Hid (FNorm w' (.agg #[.bool s,.slice p k c,.slice q l d]) (fr t))∧Bw w w':=by
 have HO:=hid (fun (W:World) (hW:Bw w W)=>FracOf_open v t.1 t.2.1 t.2.2 W (h.below hW) (ht.below hW));rw[hl] at HO;obtain⟨_,_,rfl,⟨p1,k1,c1,rfl,_⟩,⟨q1,l1,d1,rfl,_⟩⟩:=h;clear hl ht;obtain⟨r,hr⟩:∃r,r=fr t:=⟨_,rfl⟩;rw[←hr]
 change Hid (∀(W:World),Bw w W→Calls _ _ _ W fun e w'=>Bw W w'∧FRes w' e _ (fr t)) at HO
 rw[←hr] at HO;clear hr;obtain⟨s1,hs⟩:∃s,s=t.1:=⟨_,rfl⟩;rw[←hs] at HO ⊢;clear hs;go_enter Tryz.func141,Tryz.ntmps141;go_wp2_with fail;have HV:=hid (pre2 w [.bool s1,.slice p1 k1 c1,.slice q1 l1 d1] [.int .i64 0,.bool false,.slice none 0 0,.slice none 0 0] 24 50 ⟨trivial,trivial,trivial,trivial⟩ ⟨trivial,trivial,trivial,trivial,trivial⟩);generalize(w.alloc (.cells #[.bool s1,.slice p1 k1 c1,.slice q1 l1 d1] 24)).alloc (.cells #[.int .i64 0,.bool false,.slice none 0 0,.slice none 0 0] 50)=W0 at *;refine(HO.out _ HV.out.2.2).mono ?_;rintro e w1 ⟨hB1,⟨h0,_⟩ | ⟨_,s2,p2,k2,c2,q2,l2,d2,rfl,hF⟩⟩
 ·exact absurd rfl h0
 go_wp2_with fail;refine(mustF_ok s2 p2 k2 c2 q2 l2 d2 w1).mono ?_;rintro e w2 ⟨rfl,hB2⟩;have HB2:=hid (held_any hB1 hB2);have HF2:=hid (hF.out.below hB2);clear hB1 hB2 hF;go_wp2_with fail;refine(finite_any s2 p2 k2 c2 q2 l2 d2 w2).mono ?_;rintro e w3 ⟨rfl,hB3⟩;have HB3:=hid (held_any HB2.out hB3);have HF3:=hid (HF2.out.below hB3);clear hB3 HF2;have HR:=hid (HV.out.2.1.below HB3.out);obtain⟨g0,g1,g2,g3,f0,f1,f2,f3⟩:=HR.out.cells4;go_wp2_with fail;exact read_ret rfl (HR.out.stores [.int .i64 0,.bool s2,.slice p2 k2 c2,.slice q2 l2 d2] rfl nd4) ⟨s2,p2,k2,c2,q2,l2,d2,rfl,hid (HF3.out.stores (k:=0) (l:=[.int .i64 0,.bool s2,.slice p2 k2 c2,.slice q2 l2 d2]) HR.out nd4),Below.stores (k:=0) (l:=[.int .i64 0,.bool s2,.slice p2 k2 c2,.slice q2 l2 d2]) (HV.out.2.2.trans (HB3.out.mono HV.out.2.2.size)) (Nat.le_succ _)⟩
theorem read_large(v:Value)(t:Tq)(w:World)(h:NRep w v t)(hl:large t.2.1 t.2.2=true)(ht:TabOk w):
  Calls Tryz.prog 141 #[v] w fun e w'=>e=pan 1∧Bw w w':=by
 have HO:=hid (fun (W:World) (hW:Bw w W)=>FracOf_open v t.1 t.2.1 t.2.2 W (h.below hW) (ht.below hW));rw[hl] at HO;obtain⟨_,_,rfl,⟨p1,k1,c1,rfl,_⟩,⟨q1,l1,d1,rfl,_⟩⟩:=h;clear hl ht;obtain⟨s1,hs⟩:∃s,s=t.1:=⟨_,rfl⟩;rw[←hs] at HO ⊢;clear hs;go_enter Tryz.func141,Tryz.ntmps141;go_wp2_with fail;generalize hA:World.alloc _ _=W0;have HV:=hid (pre2_o hA nd3 nd4);clear hA;refine(HO.out _ HV.out.2.2).mono ?_;rintro e w1 ⟨hB1,⟨_,rfl⟩ | ⟨h0,_⟩⟩
 case inr=>exact absurd h0 (by decide)
 unfold zeroF;go_wp2_with fail;refine(mustF_err false none 0 0 none 0 0 1 (by decide) w1).mono ?_;rintro e w2 ⟨rfl,hB2⟩;exact⟨rfl,rfl,HV.out.2.2.trans ((held_any hB1 hB2).mono HV.out.2.2.size)⟩
theorem infinite_any(i s p k c q l d)(w:World):
  Calls Tryz.prog 88 #[.agg #[.int .i64 i,.bool s,.slice p k c,.slice q l d]] w fun e w'=>e=.returned (.bool (i != 0))∧Bw w w':=by
 go_enter Tryz.func88,Tryz.ntmps88;go_wp2_with fail
 go_ret
 exact⟨rfl,(Below.refl _ _).alloc (Nat.le_refl _) _⟩
theorem ecompare_inf(i1 s1 p1 k1 c1 q1 l1 d1 i2 s2 p2 k2 c2 q2 l2 d2)(w:World)(h:i1≠0∨i2≠0):
  Calls Tryz.prog 92 #[.agg #[.int .i64 i1,.bool s1,.slice p1 k1 c1,.slice q1 l1 d1],.agg #[.int .i64 i2,.bool s2,.slice p2 k2 c2,.slice q2 l2 d2]] w fun e w'=>e=.returned (.int .i64 (cmpI i1 i2))∧Bw w w':=by
 have h1:(i1 != 0)=true∨((i1 != 0)=false∧(i2 != 0)=true):=by
  by_cases ha:i1=0
  ·right
   rcases h with h | h
   ·exact absurd ha h
   ·exact⟨by simp [ha],by simp [h]⟩
  ·left;simp [ha]
 clear h
 rcases h1 with h1 | ⟨h1,h2⟩
 all_goals
  go_enter Tryz.func92,Tryz.ntmps92
  go_wp2_with fail
  generalize hA:World.alloc _ _=W0
  have HV:=hid (pre2_o hA nd4 nd4)
  clear hA
  refine(infinite_any i1 s1 p1 k1 c1 q1 l1 d1 W0).mono ?_
  rintro e w1 ⟨rfl,hB1⟩
  rw[h1]
  obtain⟨g0,g1,g2,g3,_⟩:=(HV.out.1.below hB1).cells4
  obtain⟨u0,u1,u2,u3,_⟩:=(HV.out.2.1.below hB1).cells4
  have HB:=hid hB1
  clear hB1
  go_wp2_with fail
 ·refine(cmpI_any i1 i2 w1).mono ?_;rintro e w2 ⟨rfl,rfl⟩;go_wp2_with fail
  go_ret
  exact⟨rfl,HV.out.2.2.trans (HB.out.mono HV.out.2.2.size)⟩
 ·refine(infinite_any i2 s2 p2 k2 c2 q2 l2 d2 w1).mono ?_;rintro e w2 ⟨rfl,hB2⟩;rw[h2];have HB2:=hid (held_any HB.out hB2);clear hB2 g0 g1 g2 g3 u0 u1 u2 u3;obtain⟨g0,g1,g2,g3,_⟩:=(HV.out.1.below HB2.out).cells4;obtain⟨u0,u1,u2,u3,_⟩:=(HV.out.2.1.below HB2.out).cells4;go_wp2_with fail;refine(cmpI_any i1 i2 w2).mono ?_;rintro e w3 ⟨rfl,rfl⟩;go_wp2_with fail
  go_ret
  exact⟨rfl,HV.out.2.2.trans (HB2.out.mono HV.out.2.2.size)⟩
theorem ecompare_fin(i1 s1 p1 k1 c1 q1 l1 d1 i2 s2 p2 k2 c2 q2 l2 d2)(x y:Int×Tq)(A:Nat)(w:World)(ha:ERep w (.agg #[.int .i64 i1,.bool s1,.slice p1 k1 c1,.slice q1 l1 d1]) x)(hb:ERep w (.agg #[.int .i64 i2,.bool s2,.slice p2 k2 c2,.slice q2 l2 d2]) y)(hx:EOk A x)(hy:EOk A y)(hA:A≤4000000)(h1:x.1=0)(h2:y.1=0):
  Calls Tryz.prog 92 #[.agg #[.int .i64 i1,.bool s1,.slice p1 k1 c1,.slice q1 l1 d1],.agg #[.int .i64 i2,.bool s2,.slice p2 k2 c2,.slice q2 l2 d2]] w fun e w'=>e=.returned (.int .i64 (fcmp x.2 y.2))∧Bw w w':=by
 obtain⟨e1,hF1⟩:=ha.frac;obtain⟨e2,hF2⟩:=hb.frac;rw[h1] at e1;rw[h2] at e2;subst e1 e2;have hfx:=hx.fin h1;have hfy:=hy.fin h2;have HC:=hid (fun (W:World) (hW:Bw w W)=>FracCompare_any (.agg #[.bool s1,.slice p1 k1 c1,.slice q1 l1 d1]) (.agg #[.bool s2,.slice p2 k2 c2,.slice q2 l2 d2]) x.2.1 x.2.2.1 x.2.2.2 y.2.1 y.2.2.1 y.2.2.2 W (hF1.below hW) (hF2.below hW) (lt_4m hx.bn hA) (lt_4m hx.bd hA) (lt_4m hy.bn hA) (lt_4m hy.bd hA) hfx.pos hfy.pos hfx.zs hfy.zs);obtain⟨r,hr⟩:∃r,r=fcmp x.2 y.2:=⟨_,rfl⟩;rw[←hr]
 change Hid (∀(W:World),Bw w W→Calls _ _ _ W fun e w'=>e=.returned (.int .i64 (fcmp x.2 y.2))∧Bw W w') at HC
 rw[←hr] at HC;clear hr ha hb hx hy hA h1 h2 hF1 hF2 hfx hfy;go_enter Tryz.func92,Tryz.ntmps92;go_wp2_with fail;generalize hA:World.alloc _ _=W0;have HV:=hid (pre2_o hA nd4 nd4);clear hA;refine(infinite_any 0 s1 p1 k1 c1 q1 l1 d1 W0).mono ?_;rintro e w1 ⟨rfl,hB1⟩;rw[show((0:Int) != 0)=false from rfl];obtain⟨g0,g1,g2,g3,_⟩:=(HV.out.1.below hB1).cells4;obtain⟨u0,u1,u2,u3,_⟩:=(HV.out.2.1.below hB1).cells4;have HB:=hid hB1;clear hB1;go_wp2_with fail;refine(infinite_any 0 s2 p2 k2 c2 q2 l2 d2 w1).mono ?_;rintro e w2 ⟨rfl,hB2⟩;rw[show((0:Int) != 0)=false from rfl];have HB2:=hid (held_any HB.out hB2);clear hB2 g0 g1 g2 g3 u0 u1 u2 u3;obtain⟨g0,g1,g2,g3,_⟩:=(HV.out.1.below HB2.out).cells4;obtain⟨u0,u1,u2,u3,_⟩:=(HV.out.2.1.below HB2.out).cells4;go_wp2_with fail;refine(HC.out w2 (HV.out.2.2.trans (HB2.out.mono HV.out.2.2.size))).mono ?_;rintro e w3 ⟨rfl,hB3⟩;go_wp2_with fail
 go_ret
 exact⟨rfl,HV.out.2.2.trans ((held_any HB2.out hB3).mono HV.out.2.2.size)⟩
theorem ecompare_any(i1 s1 p1 k1 c1 q1 l1 d1 i2 s2 p2 k2 c2 q2 l2 d2)(x y:Int×Tq)(A:Nat)(w:World)(ha:ERep w (.agg #[.int .i64 i1,.bool s1,.slice p1 k1 c1,.slice q1 l1 d1]) x)(hb:ERep w (.agg #[.int .i64 i2,.bool s2,.slice p2 k2 c2,.slice q2 l2 d2]) y)(hx:EOk A x)(hy:EOk A y)(hA:A≤4000000):
  Calls Tryz.prog 92 #[.agg #[.int .i64 i1,.bool s1,.slice p1 k1 c1,.slice q1 l1 d1],.agg #[.int .i64 i2,.bool s2,.slice p2 k2 c2,.slice q2 l2 d2]] w fun e w'=>e=.returned (.int .i64 (ecmp x y))∧Bw w w':=by
 by_cases h:x.1≠0∨y.1≠0
 ·unfold ecmp;rw[if_pos h,←(ha.frac).1,←(hb.frac).1];refine ecompare_inf i1 s1 p1 k1 c1 q1 l1 d1 i2 s2 p2 k2 c2 q2 l2 d2 w ?_;rw[(ha.frac).1,(hb.frac).1];exact h
 ·unfold ecmp;rw[if_neg h];exact ecompare_fin i1 s1 p1 k1 c1 q1 l1 d1 i2 s2 p2 k2 c2 q2 l2 d2 x y A w ha hb hx hy hA (by omega) (by omega)
def sfrom (x y:Int×Tq):Ts:=(x,y,decide (0 < ecmp x y))
theorem from_ret{W:World}{B:Nat}{a0 a1 a2 a3 a4 a5 a6 a7 a8:Value}{tm:Array Value}{R:Ending→World→Prop}(h2:tm[4]?.getD undef=.pointer (some ⟨B,0,none⟩))(hV:Box W B #[a0,a1,a2,a3,a4,a5,a6,a7,a8])(hR:R (.returned (.agg #[a0,a1,a2,a3,a4,a5,a6,a7,a8])) W):
  bodyPost Tryz.prog Tryz.f142 R .ret {tmps:=tm,defers:=[]} W:=by
 obtain⟨g0,g1,g2,g3,g4,g5,g6,g7,g8,_⟩:=hV.cells9;exact bodyPost_ret (v:=.agg #[a0,a1,a2,a3,a4,a5,a6,a7,a8]) (by simp [results,Tryz.results142,go_sem,h2,g0,g1,g2,g3,g4,g5,g6,g7,g8]) rfl hR
set_option maxHeartbeats 1000000 in
set_option maxRecDepth 100000 in
theorem from_any(i1 s1 p1 k1 c1 q1 l1 d1 i2 s2 p2 k2 c2 q2 l2 d2)(x y:Int×Tq)(A:Nat)(w:World)(ha:ERep w (.agg #[.int .i64 i1,.bool s1,.slice p1 k1 c1,.slice q1 l1 d1]) x)(hb:ERep w (.agg #[.int .i64 i2,.bool s2,.slice p2 k2 c2,.slice q2 l2 d2]) y)(hx:EOk A x)(hy:EOk A y)(hA:A≤4000000):
  Calls Tryz.prog 142 #[.agg #[.int .i64 i1,.bool s1,.slice p1 k1 c1,.slice q1 l1 d1],.agg #[.int .i64 i2,.bool s2,.slice p2 k2 c2,.slice q2 l2 d2]] w fun e w'=>e=.returned (.agg #[.int .i64 i1,.bool s1,.slice p1 k1 c1,.slice q1 l1 d1,.int .i64 i2,.bool s2,.slice p2 k2 c2,.slice q2 l2 d2,.bool (decide (0 < ecmp x y))])∧Bw w w':=by
 have HC:=hid (fun (W:World) (hW:Bw w W)=>ecompare_any i1 s1 p1 k1 c1 q1 l1 d1 i2 s2 p2 k2 c2 q2 l2 d2 x y A W (ha.below hW) (hb.below hW) hx hy hA);clear ha hb hx hy hA;obtain⟨r,hr⟩:∃r,r=ecmp x y:=⟨_,rfl⟩;rw[←hr] at HC ⊢;clear hr;go_enter Tryz.func142,Tryz.ntmps142;go_wp2_with fail;generalize hA:World.alloc _ _=W0;have HV:=hid (pre3_o hA nd4 nd4 nd9);clear hA;have HQ:=hid (QQ.i2 (cs:=[.int .i64 i1,.bool s1,.slice p1 k1 c1,.slice q1 l1 d1]) (cs':=[.int .i64 i2,.bool s2,.slice p2 k2 c2,.slice q2 l2 d2]) HV.out.1 HV.out.2.1 HV.out.2.2.2);have HS:=hid (fun (w':World) (hb:QQ w [(w.heap.size,[.int .i64 i1,.bool s1,.slice p1 k1 c1,.slice q1 l1 d1]),(w.heap.size+1,[.int .i64 i2,.bool s2,.slice p2 k2 c2,.slice q2 l2 d2])] w')=>hb.s_4_4);have HN:Hid (Apart [(w.heap.size,[.int .i64 i1,.bool s1,.slice p1 k1 c1,.slice q1 l1 d1]),(w.heap.size+1,[.int .i64 i2,.bool s2,.slice p2 k2 c2,.slice q2 l2 d2])] (w.heap.size+1+1)):=hid (ne2 (by omega) (by omega));have HL:Hid (w.heap.size≤w.heap.size+1+1):=hid (by omega)
 go_region_held3 (fun w'=>w'.cell? ⟨w.heap.size,0,none⟩=some (.int .i64 i1)∧w'.cell? ⟨w.heap.size,1,none⟩=some (.bool s1)∧w'.cell? ⟨w.heap.size,2,none⟩=some (.slice p1 k1 c1)∧w'.cell? ⟨w.heap.size,3,none⟩=some (.slice q1 l1 d1)∧w'.cell? ⟨w.heap.size+1,0,none⟩=some (.int .i64 i2)∧w'.cell? ⟨w.heap.size+1,1,none⟩=some (.bool s2)∧w'.cell? ⟨w.heap.size+1,2,none⟩=some (.slice p2 k2 c2)∧w'.cell? ⟨w.heap.size+1,3,none⟩=some (.slice q2 l2 d2)∧Hid (QQ w [(w.heap.size,[.int .i64 i1,.bool s1,.slice p1 k1 c1,.slice q1 l1 d1]),(w.heap.size+1,[.int .i64 i2,.bool s2,.slice p2 k2 c2,.slice q2 l2 d2])] w'))
  (first | (refine HS.out _ ?_;first | (with_reducible exact HQ.out.drew) | (with_reducible assumption) | (with_reducible refine QQ.st9 ?_ HN.out HL.out;assumption)))
  (first | (go_at_call 92;refine(HC.out _ (HV.out.2.2.2.trans ((Below.refl _ _).drew.mono HV.out.2.2.2.size))).mono ?_;rintro e wc ⟨rfl,hBc⟩;have hQc:=HQ.out.drew.call hBc;have hVc:=(HV.out.2.2.1.drew).below hBc;obtain⟨g0,g1,g2,g3,g4,g5,g6,g7,g8,f0,f1,f2,f3,f4,f5,f6,f7,f8⟩:=hVc.cells9))
 rename_i hHeld
 clear hHeld;go_wp2_with fail;exact from_ret rfl (hVc.stores [.int .i64 i1,.bool s1,.slice p1 k1 c1,.slice q1 l1 d1,.int .i64 i2,.bool s2,.slice p2 k2 c2,.slice q2 l2 d2,.bool (decide (0 < r))] rfl nd9) ⟨rfl,Below.stores (k:=0) (l:=[.int .i64 i1,.bool s1,.slice p1 k1 c1,.slice q1 l1 d1,.int .i64 i2,.bool s2,.slice p2 k2 c2,.slice q2 l2 d2,.bool (decide (0 < r))]) hQc.2 HL.out⟩
end Go.Proofs.YteblinkehldghaaGreatDoor
