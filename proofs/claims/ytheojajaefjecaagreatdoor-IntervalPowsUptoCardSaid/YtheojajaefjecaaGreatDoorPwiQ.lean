/- Pow of the reference, equal to the program's: the law's calls. -/
import Derived.Test.YtheojajaefjecaaGreatDoorPwiN
import Derived.Test.YtheojajaefjecaaGreatDoorHasU
namespace Go.Proofs.YtheojajaefjecaaGreatDoor
open Go.RowKit Dg
theorem fcmp_zle{A:Tq}(h:IsFr A):(fcmp A (false,0,1)≤0)↔(sgn A.1 A.2.1≤0):=by
 rw[fcmp_nonpos]
 have e:sv (false,0,1).1 (false,0,1).2.1*(A.2.2:Int)=0:=by
  show((0:Nat):Int)*_=0;simp
 rw[e]
 have e1:sv A.1 A.2.1*((false,0,1):Tq).2.2=sv A.1 A.2.1:=by
  show sv A.1 A.2.1*((1:Nat):Int)=_;simp
 rw[e1];have hz:=h.zs;unfold sv sgn;cases hs:A.1
 ·simp only[Bool.false_eq_true,if_false]
  by_cases h0:A.2.1=0
  ·simp [h0]
  ·simp [h0]
 ·simp only[if_true];omega
theorem fcmp_zge{A:Tq}(h:IsFr A):(fcmp (false,0,1) A≤0)↔(0≤sgn A.1 A.2.1):=by
 rw[fcmp_nonpos]
 have e:sv (false,0,1).1 (false,0,1).2.1*(A.2.2:Int)=0:=by
  show((0:Nat):Int)*_=0;simp
 rw[e]
 have e1:sv A.1 A.2.1*((false,0,1):Tq).2.2=sv A.1 A.2.1:=by
  show sv A.1 A.2.1*((1:Nat):Int)=_;simp
 rw[e1];have hz:=h.zs;unfold sv sgn;cases hs:A.1
 ·simp only[Bool.false_eq_true,if_false]
  by_cases h0:A.2.1=0
  ·simp [h0]
  ·simp [h0]
 ·have n0:A.2.1≠0:=fun h0=>absurd (hs.symm.trans (hz h0)) (by decide)
  simp only[if_true];omega
theorem szero_jin{a b:Tq}{x y:Bool}(he:(srd (a,b,x,y)).2.2=false):szero (srd (a,b,x,y))=jin (jof (a,b,x,y)) (false,0,1):=by
 rw[srd_mk he,jof_mk he];have fa:=IsFr.fr a;have fb:=IsFr.fr b;have p1:decide (fcmp (fr a) (false,0,1)≤0)=decide (sgn (fr a).1 (fr a).2.1≤0):=decide_eq_decide.2 (fcmp_zle fa);have p2:decide (fcmp (false,0,1) (fr b)≤0)=decide (0≤sgn (fr b).1 (fr b).2.1):=decide_eq_decide.2 (fcmp_zge fb);unfold szero jin
 cases x<;>cases y
 ·show(decide (sgn (fr a).1 (fr a).2.1≤0) && decide (0≤sgn (fr b).1 (fr b).2.1))=(!false && (false || decide (fcmp (fr a) (false,0,1)≤0)) && (false || decide (fcmp (false,0,1) (fr b)≤0)));rw[p1,p2];simp
 ·show(decide (sgn (fr a).1 (fr a).2.1≤0) && decide ((0:Int)≤1))=(!false && (false || decide (fcmp (fr a) (false,0,1)≤0)) && (true || _));rw[p1];simp
 ·show(decide ((-1:Int)≤0) && decide (0≤sgn (fr b).1 (fr b).2.1))=(!false && (true || _) && (false || decide (fcmp (false,0,1) (fr b)≤0)));rw[p2];simp
 ·rfl
theorem spow_form{a b:Tq}{x y:Bool}{n:Int}(he:(srd (a,b,x,y)).2.2=false)(hk:pzero n (srd (a,b,x,y))=false):
  ∃P Q X Y,spow (srd (a,b,x,y)) n=mkS P Q X Y∧pord P Q X Y:=by
 have ho:=srd_ord he;unfold pzero at hk;unfold spow;rw[srd_mk he] at hk ⊢
 rcases Int.lt_trichotomy n 0 with h0 | h0 | h0
 ·rw[if_neg (by omega),if_pos h0];rw[decide_eq_true h0,Bool.true_and] at hk;rw[sinv_mk,spos_mk];exact⟨_,_,_,_,rfl,ppos_ord (pinv_ord ho (szero_mk hk))⟩
 ·rw[if_pos h0];exact⟨(false,1,1),(false,1,1),false,false,rfl,fun _=>⟨false,1,1,by decide,rfl⟩,fun _=>⟨false,1,1,by decide,rfl⟩,fun _ _=>by decide+kernel⟩
 ·rw[if_neg (by omega),if_neg (by omega)];rw[spos_mk];exact⟨_,_,_,_,rfl,ppos_ord ho⟩
theorem pw_ok(a b:Tq)(x y:Bool)(n p:Int)(h:kcode (pvalid n p) (pzero n) 10 (spr n p) (a,b,x,y)=0):∃r,JGood r∧kval (pvalid n p) (pzero n) (spr n p) (a,b,x,y)=japi r:=by
 unfold kcode at h;unfold kval;cases hk:kon (pvalid n p) (pzero n) (a,b,x,y)
 ·rw[hk] at h;have h:ocode (pvalid n p) (spr n p) (a,b,x,y)=0:=h;show ∃r,JGood r∧oval (pvalid n p) (spr n p) (a,b,x,y)=japi r;unfold ocode at h;unfold oval;unfold kon at hk;cases hL:(large a.2.1 a.2.2 || large b.2.1 b.2.2)
  ·have hla:ilarge (a,b,x,y)=false:=hL;rw[Bool.or_eq_false_iff] at hL;rw[hla] at h hk ⊢;cases hv:pvalid n p
   ·rw[hv] at h;simp at h
   ·rw[hv] at h hk;obtain⟨pr,rfl,kp,_,_⟩:=pvalid_of hv;cases he:(srd (a,b,x,y)).2.2
    ·rw[he] at h hk;cases hb:sbig (spr n (pr:Int) (srd (a,b,x,y)))
     ·obtain⟨P,Q,X,Y,hf,ho⟩:=spow_form he (show pzero n (srd (a,b,x,y))=false from hk)
      have e1:spr n (pr:Int) (srd (a,b,x,y))=sround (mkS P Q X Y) pr:=by unfold spr;rw[hf];rfl
      rw[e1] at hb ⊢;have hs:=rnd_ends (A:=P) (B:=Q) (x:=X) (y:=Y) (p:=pr);exact⟨_,ho.fr.round pr (hs.1.trans hb),hs.2.symm⟩
     ·rw[hb] at h;exact absurd h (by decide)
    ·exact⟨_,JGood.of (x:=x) (y:=y) hL.1 hL.2,giv_srd hL.1 hL.2⟩
  ·have hla:ilarge (a,b,x,y)=true:=hL;rw[hla] at h;simp at h
 ·rw[hk] at h;exact absurd h (by simp)
theorem mk_bd{P Q:Tq}{X Y:Bool}(h:EOk 2100 (mkS P Q X Y).1∧EOk 2100 (mkS P Q X Y).2.1):((mkJ P Q X Y).1.2.1 < W32 ^ 2100∧(mkJ P Q X Y).1.2.2 < W32 ^ 2100)∧((mkJ P Q X Y).2.1.2.1 < W32 ^ 2100∧(mkJ P Q X Y).2.1.2.2 < W32 ^ 2100):=by
 cases X<;>cases Y<;>exact⟨⟨h.1.bn,h.1.bd⟩,⟨h.2.bn,h.2.bd⟩⟩
theorem nn_eq{n:Int}(h:n < 0)(hl:-32≤n):∃k:Nat,n=-(k:Int)∧1≤k∧k≤32:=⟨(-n).toNat,by omega,by omega,by omega⟩
theorem jPow_set(s1 p1 k1 c1 q1 l1 d1 sz1 pz1 kz1 cz1 qz1 lz1 dz1 x1 y1)(a b:Tq)(n)(pr:Nat)(w:World)(ha:NRep w (.agg #[.bool s1,.slice p1 k1 c1,.slice q1 l1 d1]) a)(hb:NRep w (.agg #[.bool sz1,.slice pz1 kz1 cz1,.slice qz1 lz1 dz1]) b)(h1:large a.2.1 a.2.2=false)(h2:large b.2.1 b.2.2=false)(hl:-32≤n)(hh:n≤32)(kp:pr≤128)(he:(srd (a,b,x1,y1)).2.2=false):
  (pzero n (srd (a,b,x1,y1))=true→Calls Tryz.prog 21 #[.agg #[.bool s1,.slice p1 k1 c1,.slice q1 l1 d1,.bool sz1,.slice pz1 kz1 cz1,.slice qz1 lz1 dz1,.bool x1,.bool y1],.int .i64 n,.int .i64 (pr:Int)] w fun e w'=>∃s5 p5 k5 c5 q5 l5 d5 sz5 pz5 kz5 cz5 qz5 lz5 dz5 x5 y5,e=.returned (.tuple #[.agg #[.bool s5,.slice p5 k5 c5,.slice q5 l5 d5,.bool sz5,.slice pz5 kz5 cz5,.slice qz5 lz5 dz5,.bool x5,.bool y5],.int .i64 10])∧Hid (GRep w' (.agg #[.bool s5,.slice p5 k5 c5,.slice q5 l5 d5,.bool sz5,.slice pz5 kz5 cz5,.slice qz5 lz5 dz5,.bool x5,.bool y5]) gzero)∧Bw w w')∧
  (pzero n (srd (a,b,x1,y1))=false→Calls Tryz.prog 21 #[.agg #[.bool s1,.slice p1 k1 c1,.slice q1 l1 d1,.bool sz1,.slice pz1 kz1 cz1,.slice qz1 lz1 dz1,.bool x1,.bool y1],.int .i64 n,.int .i64 (pr:Int)] w fun e w'=>∃s5 p5 k5 c5 q5 l5 d5 sz5 pz5 kz5 cz5 qz5 lz5 dz5 x5 y5,e=.returned (.tuple #[.agg #[.bool s5,.slice p5 k5 c5,.slice q5 l5 d5,.bool sz5,.slice pz5 kz5 cz5,.slice qz5 lz5 dz5,.bool x5,.bool y5],.int .i64 (if sbig (sround (spow (srd (a,b,x1,y1)) n) pr) then 1 else 0)])∧Hid (GRep w' (.agg #[.bool s5,.slice p5 k5 c5,.slice q5 l5 d5,.bool sz5,.slice pz5 kz5 cz5,.slice qz5 lz5 dz5,.bool x5,.bool y5]) (if sbig (sround (spow (srd (a,b,x1,y1)) n) pr) then gzero else giv (sround (spow (srd (a,b,x1,y1)) n) pr)))∧Bw w w'):=by
 have HO:=hid (fun (W:World) (hW:Bw w W)=>jOne_ok s1 p1 k1 c1 q1 l1 d1 sz1 pz1 kz1 cz1 qz1 lz1 dz1 x1 y1 a b (pr:Int) W (ha.below hW) (hb.below hW) h1 h2 (by omega) (by omega))
 have qa:x1=false→QFit (fr a):=fun _=>QFit.of h1
 have qb:y1=false→QFit (fr b):=fun _=>QFit.of h2
 have ho:=srd_ord he;have n1:decide (n < -32)=false:=decide_eq_false (by omega);have n2:decide (32 < n)=false:=decide_eq_false (by omega);have hzin:=szero_jin he;have hek:=spow_ok (x:=srd (a,b,x1,y1)) (n:=n) ⟨rdE_ok (.inr rfl) h1,rdE_ok (.inl rfl) h2⟩ (srd_nz h1 h2 he) ⟨hl,hh⟩
 have ends:∀{P Q:Tq} {X Y:Bool},pzero n (srd (a,b,x1,y1))=false→spow (srd (a,b,x1,y1)) n=mkS P Q X Y→pord P Q X Y→
   (Hid (∀W s6 p6 k6 c6 q6 l6 d6 sz6 pz6 kz6 cz6 qz6 lz6 dz6 x6 y6 e6,JRep W (.agg #[.bool s6,.slice p6 k6 c6,.slice q6 l6 d6,.bool sz6,.slice pz6 kz6 cz6,.slice qz6 lz6 dz6,.bool x6,.bool y6,.bool e6]) (mkJ P Q X Y)→Calls Tryz.prog 47 #[.agg #[.bool s6,.slice p6 k6 c6,.slice q6 l6 d6,.bool sz6,.slice pz6 kz6 cz6,.slice qz6 lz6 dz6,.bool x6,.bool y6,.bool e6],.int .i64 (pr:Int)] W fun e w'=>∃s3 p3 k3 c3 q3 l3 d3 sz3 pz3 kz3 cz3 qz3 lz3 dz3 x3 y3 e3,e=.returned (.agg #[.bool s3,.slice p3 k3 c3,.slice q3 l3 d3,.bool sz3,.slice pz3 kz3 cz3,.slice qz3 lz3 dz3,.bool x3,.bool y3,.bool e3])∧Hid (JRep w' (.agg #[.bool s3,.slice p3 k3 c3,.slice q3 l3 d3,.bool sz3,.slice pz3 kz3 cz3,.slice qz3 lz3 dz3,.bool x3,.bool y3,.bool e3]) (jround (mkJ P Q X Y) pr))∧Bw W w'))∧
   (Hid (∀W s6 p6 k6 c6 q6 l6 d6 sz6 pz6 kz6 cz6 qz6 lz6 dz6 x6 y6 e6,JRep W (.agg #[.bool s6,.slice p6 k6 c6,.slice q6 l6 d6,.bool sz6,.slice pz6 kz6 cz6,.slice qz6 lz6 dz6,.bool x6,.bool y6,.bool e6]) (jround (mkJ P Q X Y) pr)→Calls Tryz.prog 46 #[.agg #[.bool s6,.slice p6 k6 c6,.slice q6 l6 d6,.bool sz6,.slice pz6 kz6 cz6,.slice qz6 lz6 dz6,.bool x6,.bool y6,.bool e6]] W fun e w'=>∃s5 p5 k5 c5 q5 l5 d5 sz5 pz5 kz5 cz5 qz5 lz5 dz5 x5 y5,e=.returned (.tuple #[.agg #[.bool s5,.slice p5 k5 c5,.slice q5 l5 d5,.bool sz5,.slice pz5 kz5 cz5,.slice qz5 lz5 dz5,.bool x5,.bool y5],.int .i64 (if sbig (sround (spow (srd (a,b,x1,y1)) n) pr) then 1 else 0)])∧Hid (GRep w' (.agg #[.bool s5,.slice p5 k5 c5,.slice q5 l5 d5,.bool sz5,.slice pz5 kz5 cz5,.slice qz5 lz5 dz5,.bool x5,.bool y5]) (if sbig (sround (spow (srd (a,b,x1,y1)) n) pr) then gzero else giv (sround (spow (srd (a,b,x1,y1)) n) pr)))∧Bw W w')):=by
  intro P Q X Y hk hf hord;have hb2:=(hek hk).1;rw[hf] at hb2 ⊢;have hbd:=mk_bd hb2;have hs:=rnd_ends (A:=P) (B:=Q) (x:=X) (y:=Y) (p:=pr);refine⟨hid fun W s6 p6 k6 c6 q6 l6 d6 sz6 pz6 kz6 cz6 qz6 lz6 dz6 x6 y6 e6 hJ=>jRoundedB s6 p6 k6 c6 q6 l6 d6 sz6 pz6 kz6 cz6 qz6 lz6 dz6 x6 y6 e6 _ pr W hJ ⟨hord.fr,hbd⟩ (by omega),hid fun W s6 p6 k6 c6 q6 l6 d6 sz6 pz6 kz6 cz6 qz6 lz6 dz6 x6 y6 e6 hJ=>?_⟩;have k:=jDone_any s6 p6 k6 c6 q6 l6 d6 sz6 pz6 kz6 cz6 qz6 lz6 dz6 x6 y6 e6 _ W hJ (jround_bdB ⟨hord.fr,hbd⟩ kp);have hs1:jbig (jround (mkJ P Q X Y) pr)=sbig (sround (mkS P Q X Y) pr):=hs.1;have hs2:japi (jround (mkJ P Q X Y) pr)=giv (sround (mkS P Q X Y) pr):=hs.2;rw[hs1,hs2] at k;exact k
 have HIn:=hid (fun (W:World) s6 p6 k6 c6 q6 l6 d6 sz6 pz6 kz6 cz6 qz6 lz6 dz6 x6 y6 e6 s5 p5 k5 c5 q5 l5 d5 (hJ:JRep W (.agg #[.bool s6,.slice p6 k6 c6,.slice q6 l6 d6,.bool sz6,.slice pz6 kz6 cz6,.slice qz6 lz6 dz6,.bool x6,.bool y6,.bool e6]) (jof (a,b,x1,y1))) (hq:QNorm W (.agg #[.bool s5,.slice p5 k5 c5,.slice q5 l5 d5]) (false,0,1))=>jIn_any s6 p6 k6 c6 q6 l6 d6 sz6 pz6 kz6 cz6 qz6 lz6 dz6 x6 y6 e6 s5 p5 k5 c5 q5 l5 d5 _ (false,0,1) W hJ hq QFit.zero.ok
  (fun _ hx=>by
   have e:=(JRep.parts s6 p6 k6 c6 q6 l6 d6 sz6 pz6 kz6 cz6 qz6 lz6 dz6 x6 y6 e6 hJ).2.2.1;rw[jof_mk he] at e ⊢;rw[hx] at e;have e:false=x1:=e;subst e
   exact(qa rfl).ok)
  (fun _ hy=>by
   have e:=(JRep.parts s6 p6 k6 c6 q6 l6 d6 sz6 pz6 kz6 cz6 qz6 lz6 dz6 x6 y6 e6 hJ).2.2.2.1;rw[jof_mk he] at e ⊢;rw[hy] at e;have e:false=y1:=e;subst e
   exact(qb rfl).ok))
 rw[←hzin] at HIn;have hj:=jof_mk he
 rcases Int.lt_trichotomy n 0 with h0 | h0 | h0
 ·have d0:decide (n < 0)=true:=decide_eq_true h0
  have ep:pzero n (srd (a,b,x1,y1))=szero (srd (a,b,x1,y1)):=by unfold pzero;rw[d0];rfl
  constructor
  ·intro hz;rw[ep] at hz;rw[hz] at HIn;exact jPow_zero s1 p1 k1 c1 q1 l1 d1 sz1 pz1 kz1 cz1 qz1 lz1 dz1 x1 y1 n (pr:Int) (false,0,1) _ w n1 n2 d0 HO (jint_q3 0 (by omega)) HIn
  ·intro hz;have hz0:=hz;rw[ep] at hz;rw[hz] at HIn;obtain⟨k,rfl,g1,g2⟩:=nn_eq h0 hl;have hz':=hz;rw[srd_mk he] at hz';have hsd:=szero_mk hz';have hpi:=pinv_ord ho hsd;have hzr:=pinv_z (fr a) (fr b) x1 y1;have hnz:=pside_nz ho hsd
   have qi1:QFit (pinv (fr a) (fr b) x1 y1).1:=by
    unfold pinv;cases y1
    ·exact⟨frinv_fr (hnz.2.1 rfl),Nat.lt_of_le_of_lt (Nat.div_le_self _ _) (qb rfl).2.2,Nat.lt_of_le_of_lt (Nat.div_le_self _ _) (qb rfl).2.1⟩
    ·exact QFit.zero
   have qi2:QFit (pinv (fr a) (fr b) x1 y1).2:=by
    unfold pinv;cases x1
    ·exact⟨frinv_fr (hnz.1 rfl),Nat.lt_of_le_of_lt (Nat.div_le_self _ _) (qa rfl).2.2,Nat.lt_of_le_of_lt (Nat.div_le_self _ _) (qa rfl).2.1⟩
    ·exact QFit.zero
   have hf:spow (srd (a,b,x1,y1)) (-(k:Int))=mkS (ppos (pinv (fr a) (fr b) x1 y1).1 (pinv (fr a) (fr b) x1 y1).2 false false k).1 (ppos (pinv (fr a) (fr b) x1 y1).1 (pinv (fr a) (fr b) x1 y1).2 false false k).2.1 (ppos (pinv (fr a) (fr b) x1 y1).1 (pinv (fr a) (fr b) x1 y1).2 false false k).2.2.1 (ppos (pinv (fr a) (fr b) x1 y1).1 (pinv (fr a) (fr b) x1 y1).2 false false k).2.2.2:=by
    unfold spow;rw[if_neg (by omega),if_pos h0,srd_mk he,sinv_mk]
    have ek:(-(-(k:Int))).toNat=k:=by omega
    rw[ek];exact spos_mk _ _ _ _ _
   obtain⟨HQ3,HD⟩:=ends hz0 hf (ppos_ord hpi);refine jPow_neg s1 p1 k1 c1 q1 l1 d1 sz1 pz1 kz1 cz1 qz1 lz1 dz1 x1 y1 (-(k:Int)) (k:Int) (pr:Int) (false,0,1) _ (if y1 then (false,0,0) else frinv (fr b),if x1 then (false,0,0) else frinv (fr a),false,false,false) _ _ _ _ w n1 n2 d0 (wrap_neg g2) HO (jint_q3 0 (by omega)) HIn (hid fun W s6 p6 k6 c6 q6 l6 d6 sz6 pz6 kz6 cz6 qz6 lz6 dz6 x6 y6 e6 hJ=>?_) (hid fun W s6 p6 k6 c6 q6 l6 d6 sz6 pz6 kz6 cz6 qz6 lz6 dz6 x6 y6 e6 hJ=>?_) HQ3 HD
   ·rw[hj] at hJ;exact jInv_any s6 p6 k6 c6 q6 l6 d6 sz6 pz6 kz6 cz6 qz6 lz6 dz6 x6 y6 e6 W hJ qa qb ho hsd
   ·exact jRaise_any s6 p6 k6 c6 q6 l6 d6 sz6 pz6 kz6 cz6 qz6 lz6 dz6 x6 y6 e6 k W hJ hzr.1 hzr.2 (fun _=>qi1) (fun _=>qi2) hpi g1 g2
 ·subst h0
  have ez:pzero 0 (srd (a,b,x1,y1))=false:=by unfold pzero;rfl
  refine⟨fun h=>absurd (ez.symm.trans h) (by decide),fun hz=>?_⟩;have hf:spow (srd (a,b,x1,y1)) 0=mkS (false,1,1) (false,1,1) false false:=rfl;obtain⟨HQ3,HD⟩:=ends hz hf ⟨fun _=>⟨false,1,1,by decide,rfl⟩,fun _=>⟨false,1,1,by decide,rfl⟩,fun _ _=>by decide+kernel⟩;refine jPow_pos s1 p1 k1 c1 q1 l1 d1 sz1 pz1 kz1 cz1 qz1 lz1 dz1 x1 y1 0 (pr:Int) _ (mkJ (false,1,1) (false,1,1) false false) _ _ _ w n1 n2 rfl HO (hid fun W s6 p6 k6 c6 q6 l6 d6 sz6 pz6 kz6 cz6 qz6 lz6 dz6 x6 y6 e6 hJ=>?_) HQ3 HD;have e:=(JRep.parts s6 p6 k6 c6 q6 l6 d6 sz6 pz6 kz6 cz6 qz6 lz6 dz6 x6 y6 e6 hJ).2.2.2.2;rw[hj] at e;have e:e6=false:=e;subst e;exact jRsd_zero _ _ _ _ _ _ _ _ _ _ _ _ _ _ x6 y6 _ (false,1,1) W (jint_q3 1 (by omega)) (hid fun W2 s6 p6 k6 c6 q6 l6 d6 hq=>jOneQ_any s6 p6 k6 c6 q6 l6 d6 _ W2 hq)
 ·have d0:decide (n < 0)=false:=decide_eq_false (by omega)
  have ez:pzero n (srd (a,b,x1,y1))=false:=by unfold pzero;rw[d0];rfl
  refine⟨fun h=>absurd (ez.symm.trans h) (by decide),fun hz=>?_⟩;obtain⟨k,rfl⟩:=Int.eq_ofNat_of_zero_le (show 0≤n by omega)
  have hf:spow (srd (a,b,x1,y1)) (k:Int)=mkS (ppos (fr a) (fr b) x1 y1 k).1 (ppos (fr a) (fr b) x1 y1 k).2.1 (ppos (fr a) (fr b) x1 y1 k).2.2.1 (ppos (fr a) (fr b) x1 y1 k).2.2.2:=by
   unfold spow;rw[if_neg (by omega),if_neg (by omega),srd_mk he];exact spos_mk _ _ _ _ _
  obtain⟨HQ3,HD⟩:=ends hz hf (ppos_ord ho);refine jPow_pos s1 p1 k1 c1 q1 l1 d1 sz1 pz1 kz1 cz1 qz1 lz1 dz1 x1 y1 (k:Int) (pr:Int) _ _ _ _ _ w n1 n2 d0 HO (hid fun W s6 p6 k6 c6 q6 l6 d6 sz6 pz6 kz6 cz6 qz6 lz6 dz6 x6 y6 e6 hJ=>?_) HQ3 HD;rw[hj] at hJ;refine jRaise_any s6 p6 k6 c6 q6 l6 d6 sz6 pz6 kz6 cz6 qz6 lz6 dz6 x6 y6 e6 k W hJ ?_ ?_ qa qb ho (by omega) (by omega)
  ·cases x1
   ·exact .inl rfl
   ·rfl
  ·cases y1
   ·exact .inl rfl
   ·rfl
theorem jPow_any(s1 p1 k1 c1 q1 l1 d1 sz1 pz1 kz1 cz1 qz1 lz1 dz1 x1 y1)(a b:Tq)(n p)(w:World)(ha:NRep w (.agg #[.bool s1,.slice p1 k1 c1,.slice q1 l1 d1]) a)(hb:NRep w (.agg #[.bool sz1,.slice pz1 kz1 cz1,.slice qz1 lz1 dz1]) b):
  Calls Tryz.prog 21 #[.agg #[.bool s1,.slice p1 k1 c1,.slice q1 l1 d1,.bool sz1,.slice pz1 kz1 cz1,.slice qz1 lz1 dz1,.bool x1,.bool y1],.int .i64 n,.int .i64 p] w fun e w'=>∃s5 p5 k5 c5 q5 l5 d5 sz5 pz5 kz5 cz5 qz5 lz5 dz5 x5 y5,e=.returned (.tuple #[.agg #[.bool s5,.slice p5 k5 c5,.slice q5 l5 d5,.bool sz5,.slice pz5 kz5 cz5,.slice qz5 lz5 dz5,.bool x5,.bool y5],.int .i64 (kcode (pvalid n p) (pzero n) 10 (spr n p) (a,b,x1,y1))])∧Hid (GRep w' (.agg #[.bool s5,.slice p5 k5 c5,.slice q5 l5 d5,.bool sz5,.slice pz5 kz5 cz5,.slice qz5 lz5 dz5,.bool x5,.bool y5]) (kval (pvalid n p) (pzero n) (spr n p) (a,b,x1,y1)))∧Bw w w':=by
 unfold kcode kval ocode oval kon;cases hL:(large a.2.1 a.2.2 || large b.2.1 b.2.2)
 ·have hla:ilarge (a,b,x1,y1)=false:=hL;rw[Bool.or_eq_false_iff] at hL;rw[hla];cases hp:prec p
  ·have hv:pvalid n p=false:=by unfold pvalid;rw[hp];rfl
   rw[hv];exact jPow_err s1 p1 k1 c1 q1 l1 d1 sz1 pz1 kz1 cz1 qz1 lz1 dz1 x1 y1 n p 2 w (by decide) (hid fun W hW=>jOne_arg s1 p1 k1 c1 q1 l1 d1 sz1 pz1 kz1 cz1 qz1 lz1 dz1 x1 y1 a b p W (ha.below hW) (hb.below hW) hL.1 hL.2 hp)
  ·have hp0:=hp;unfold prec at hp;rw[Bool.and_eq_true,decide_eq_true_eq,decide_eq_true_eq] at hp;obtain⟨pr,rfl⟩:=Int.eq_ofNat_of_zero_le hp.1
   have kp:pr≤128:=by omega
   have HO:=hid (fun (W:World) (hW:Bw w W)=>jOne_ok s1 p1 k1 c1 q1 l1 d1 sz1 pz1 kz1 cz1 qz1 lz1 dz1 x1 y1 a b (pr:Int) W (ha.below hW) (hb.below hW) hL.1 hL.2 (by omega) (by omega));have er:∃ta tb x y ee,jof (a,b,x1,y1)=(ta,tb,x,y,ee):=⟨_,_,_,_,_,rfl⟩;obtain⟨ta,tb,x,y,ee,er⟩:=er
   by_cases hn2:-32≤n
   ·by_cases hn8:n≤32
    ·have hv:pvalid n (pr:Int)=true:=by unfold pvalid;rw[hp0,decide_eq_true hn2,decide_eq_true hn8];rfl
     rw[hv];cases he:(srd (a,b,x1,y1)).2.2
     ·have key:=jPow_set s1 p1 k1 c1 q1 l1 d1 sz1 pz1 kz1 cz1 qz1 lz1 dz1 x1 y1 a b n pr w ha hb hL.1 hL.2 hn2 hn8 kp he
      show Calls _ _ _ _ fun e w'=>∃s5 p5 k5 c5 q5 l5 d5 sz5 pz5 kz5 cz5 qz5 lz5 dz5 x5 y5,e=.returned (.tuple #[.agg #[.bool s5,.slice p5 k5 c5,.slice q5 l5 d5,.bool sz5,.slice pz5 kz5 cz5,.slice qz5 lz5 dz5,.bool x5,.bool y5],.int .i64 (if pzero n (srd (a,b,x1,y1)) then 10 else if sbig (sround (spow (srd (a,b,x1,y1)) n) pr) then 1 else 0)])∧Hid (GRep w' (.agg #[.bool s5,.slice p5 k5 c5,.slice q5 l5 d5,.bool sz5,.slice pz5 kz5 cz5,.slice qz5 lz5 dz5,.bool x5,.bool y5]) (if pzero n (srd (a,b,x1,y1)) then gzero else if sbig (sround (spow (srd (a,b,x1,y1)) n) pr) then gzero else giv (sround (spow (srd (a,b,x1,y1)) n) pr)))∧Bw w w'
      cases hd:pzero n (srd (a,b,x1,y1))
      ·exact key.2 hd
      ·exact key.1 hd
     ·have ho:jof (a,b,x1,y1)=jnone:=jof_out he;have n1:decide (n < -32)=false:=decide_eq_false (by omega);have n2:decide (32 < n)=false:=decide_eq_false (by omega);rw[ho] at HO;have HQ3:=hid (fun (W:World) s6 p6 k6 c6 q6 l6 d6 sz6 pz6 kz6 cz6 qz6 lz6 dz6 x6 y6 e6 (hJ:JRep W (.agg #[.bool s6,.slice p6 k6 c6,.slice q6 l6 d6,.bool sz6,.slice pz6 kz6 cz6,.slice qz6 lz6 dz6,.bool x6,.bool y6,.bool e6]) jnone)=>jRounded_none s6 p6 k6 c6 q6 l6 d6 sz6 pz6 kz6 cz6 qz6 lz6 dz6 x6 y6 e6 jnone pr W hJ rfl);have HD:=hid (fun (W:World) s6 p6 k6 c6 q6 l6 d6 sz6 pz6 kz6 cz6 qz6 lz6 dz6 x6 y6 e6 (hJ:JRep W (.agg #[.bool s6,.slice p6 k6 c6,.slice q6 l6 d6,.bool sz6,.slice pz6 kz6 cz6,.slice qz6 lz6 dz6,.bool x6,.bool y6,.bool e6]) (jround jnone pr))=>jDone_any s6 p6 k6 c6 q6 l6 d6 sz6 pz6 kz6 cz6 qz6 lz6 dz6 x6 y6 e6 _ W hJ ⟨⟨b16_0,b16_0⟩,b16_0,b16_0⟩);rw[jbig_none] at HD
      have HR:=hid (fun m (W:World) s6 p6 k6 c6 q6 l6 d6 sz6 pz6 kz6 cz6 qz6 lz6 dz6 x6 y6 e6 (hJ:JRep W (.agg #[.bool s6,.slice p6 k6 c6,.slice q6 l6 d6,.bool sz6,.slice pz6 kz6 cz6,.slice qz6 lz6 dz6,.bool x6,.bool y6,.bool e6]) jnone)=>show Calls Tryz.prog 62 #[.agg #[.bool s6,.slice p6 k6 c6,.slice q6 l6 d6,.bool sz6,.slice pz6 kz6 cz6,.slice qz6 lz6 dz6,.bool x6,.bool y6,.bool e6],.int .i64 m] W fun e w'=>∃s3 p3 k3 c3 q3 l3 d3 sz3 pz3 kz3 cz3 qz3 lz3 dz3 x3 y3 e3,e=.returned (.agg #[.bool s3,.slice p3 k3 c3,.slice q3 l3 d3,.bool sz3,.slice pz3 kz3 cz3,.slice qz3 lz3 dz3,.bool x3,.bool y3,.bool e3])∧Hid (JRep w' (.agg #[.bool s3,.slice p3 k3 c3,.slice q3 l3 d3,.bool sz3,.slice pz3 kz3 cz3,.slice qz3 lz3 dz3,.bool x3,.bool y3,.bool e3]) jnone)∧Bw W w' by
       have e:e6=true:=(JRep.parts s6 p6 k6 c6 q6 l6 d6 sz6 pz6 kz6 cz6 qz6 lz6 dz6 x6 y6 e6 hJ).2.2.2.2;subst e
       exact jRsd_none _ _ _ _ _ _ _ _ _ _ _ _ _ _ x6 y6 m _ W hJ)
      show Calls _ _ _ _ fun e w'=>∃s5 p5 k5 c5 q5 l5 d5 sz5 pz5 kz5 cz5 qz5 lz5 dz5 x5 y5,e=.returned (.tuple #[.agg #[.bool s5,.slice p5 k5 c5,.slice q5 l5 d5,.bool sz5,.slice pz5 kz5 cz5,.slice qz5 lz5 dz5,.bool x5,.bool y5],.int .i64 0])∧Hid (GRep w' (.agg #[.bool s5,.slice p5 k5 c5,.slice q5 l5 d5,.bool sz5,.slice pz5 kz5 cz5,.slice qz5 lz5 dz5,.bool x5,.bool y5]) (giv (srd (a,b,x1,y1))))∧Bw w w'
      rw[giv_srd hL.1 hL.2,ho]
      by_cases h0:n < 0
      ·have HIn:=hid (fun (W:World) s6 p6 k6 c6 q6 l6 d6 sz6 pz6 kz6 cz6 qz6 lz6 dz6 x6 y6 e6 s5 p5 k5 c5 q5 l5 d5 (hJ:JRep W (.agg #[.bool s6,.slice p6 k6 c6,.slice q6 l6 d6,.bool sz6,.slice pz6 kz6 cz6,.slice qz6 lz6 dz6,.bool x6,.bool y6,.bool e6]) jnone) (hq:QNorm W (.agg #[.bool s5,.slice p5 k5 c5,.slice q5 l5 d5]) (false,0,1))=>jIn_any s6 p6 k6 c6 q6 l6 d6 sz6 pz6 kz6 cz6 qz6 lz6 dz6 x6 y6 e6 s5 p5 k5 c5 q5 l5 d5 jnone (false,0,1) W hJ hq QFit.zero.ok
        (fun h _=>absurd ((JRep.parts s6 p6 k6 c6 q6 l6 d6 sz6 pz6 kz6 cz6 qz6 lz6 dz6 x6 y6 e6 hJ).2.2.2.2.symm.trans h) (by decide)) (fun h _=>absurd ((JRep.parts s6 p6 k6 c6 q6 l6 d6 sz6 pz6 kz6 cz6 qz6 lz6 dz6 x6 y6 e6 hJ).2.2.2.2.symm.trans h) (by decide)))
       rw[show jin jnone (false,0,1)=false from rfl] at HIn;obtain⟨k,rfl,g1,g2⟩:=nn_eq h0 hn2;refine jPow_neg s1 p1 k1 c1 q1 l1 d1 sz1 pz1 kz1 cz1 qz1 lz1 dz1 x1 y1 (-(k:Int)) (k:Int) (pr:Int) (false,0,1) jnone jnone jnone (jround jnone pr) _ _ w n1 n2 (decide_eq_true h0) (wrap_neg g2) HO (jint_q3 0 (by omega)) HIn (hid fun W s6 p6 k6 c6 q6 l6 d6 sz6 pz6 kz6 cz6 qz6 lz6 dz6 x6 y6 e6 hJ=>?_) (hid fun W s6 p6 k6 c6 q6 l6 d6 sz6 pz6 kz6 cz6 qz6 lz6 dz6 x6 y6 e6 hJ=>HR.out _ W s6 p6 k6 c6 q6 l6 d6 sz6 pz6 kz6 cz6 qz6 lz6 dz6 x6 y6 e6 hJ) HQ3 HD;have e:e6=true:=(JRep.parts s6 p6 k6 c6 q6 l6 d6 sz6 pz6 kz6 cz6 qz6 lz6 dz6 x6 y6 e6 hJ).2.2.2.2;subst e;exact jInv_none _ _ _ _ _ _ _ _ _ _ _ _ _ _ x6 y6 _ W hJ
      ·exact jPow_pos s1 p1 k1 c1 q1 l1 d1 sz1 pz1 kz1 cz1 qz1 lz1 dz1 x1 y1 n (pr:Int) jnone jnone (jround jnone pr) _ _ w n1 n2 (decide_eq_false h0) HO (hid fun W s6 p6 k6 c6 q6 l6 d6 sz6 pz6 kz6 cz6 qz6 lz6 dz6 x6 y6 e6 hJ=>HR.out _ W s6 p6 k6 c6 q6 l6 d6 sz6 pz6 kz6 cz6 qz6 lz6 dz6 x6 y6 e6 hJ) HQ3 HD
    ·have hv:pvalid n (pr:Int)=false:=by unfold pvalid;rw[decide_eq_false hn8,Bool.and_false]
     rw[hv];exact jPow_arg_hi s1 p1 k1 c1 q1 l1 d1 sz1 pz1 kz1 cz1 qz1 lz1 dz1 x1 y1 n (pr:Int) ta tb x y ee _ w er (decide_eq_false (by omega)) (decide_eq_true (by omega)) HO
   ·have hv:pvalid n (pr:Int)=false:=by unfold pvalid;rw[decide_eq_false hn2,Bool.and_false,Bool.false_and]
    rw[hv];exact jPow_arg_lo s1 p1 k1 c1 q1 l1 d1 sz1 pz1 kz1 cz1 qz1 lz1 dz1 x1 y1 n (pr:Int) ta tb x y ee _ w er (decide_eq_true (by omega)) HO
 ·have hla:ilarge (a,b,x1,y1)=true:=hL;rw[hla];exact jPow_err s1 p1 k1 c1 q1 l1 d1 sz1 pz1 kz1 cz1 qz1 lz1 dz1 x1 y1 n p 1 w (by decide) (hid fun W hW=>jOne_large s1 p1 k1 c1 q1 l1 d1 sz1 pz1 kz1 cz1 qz1 lz1 dz1 x1 y1 a b p W (ha.below hW) (hb.below hW) hla)
end Go.Proofs.YtheojajaefjecaaGreatDoor
