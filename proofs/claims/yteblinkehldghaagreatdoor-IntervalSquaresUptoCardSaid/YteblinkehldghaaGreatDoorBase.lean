/- Plain facts on digits of natural numbers to a base. -/
import Derived.WalkKit
import Derived.Deep.OwnRows
namespace Dg
def dg (B x j:Nat):Nat:=x / B ^ j % B
theorem dg_lt{B x j:Nat}(h:0 < B):dg B x j < B:=Nat.mod_lt _ h
theorem mod_succ(B x i:Nat):x % B ^ (i+1)=x % B ^ i+B ^ i*dg B x i:=by
 rw[Nat.pow_succ,Nat.mod_mul];rfl
theorem dg_zero{B x j:Nat}(h:x < B ^ j):dg B x j=0:=by
 unfold dg;rw[Nat.div_eq_of_lt h];exact Nat.zero_mod _
theorem dg_zero'{B x i j:Nat}(hB:0 < B)(h:x < B ^ i)(hij:i≤j):dg B x j=0:=
 dg_zero (Nat.lt_of_lt_of_le h (Nat.pow_le_pow_right hB hij))
theorem dg_top{B x i:Nat}(h:x < B ^ (i+1)):dg B x i=x / B ^ i:=by
 unfold dg;refine Nat.mod_eq_of_lt (Nat.div_lt_of_lt_mul ?_)
 rwa [Nat.pow_succ] at h
theorem dg_add_lt{B X s i j:Nat}(hB:0 < B)(hj:j < i):dg B (X+B ^ i*s) j=dg B X j:=by
 unfold dg;obtain⟨k,rfl⟩:∃k,i=j+(k+1):=⟨i - j - 1,by omega⟩;rw[Nat.pow_add,Nat.mul_assoc,Nat.add_mul_div_left _ _ (Nat.pow_pos hB),Nat.pow_succ,Nat.mul_comm (B ^ k) B,Nat.mul_assoc,Nat.add_mul_mod_self_left]
theorem dg_add_eq{B X s i:Nat}(hB:0 < B)(hX:X < B ^ i)(hs:s < B):dg B (X+B ^ i*s) i=s:=by
 unfold dg;rw[Nat.add_mul_div_left _ _ (Nat.pow_pos hB),Nat.div_eq_of_lt hX,Nat.zero_add,Nat.mod_eq_of_lt hs]
theorem add_lt{B X s i:Nat}(hX:X < B ^ i)(hs:s < B):X+B ^ i*s < B ^ (i+1):=by
 rw[Nat.pow_succ];have h1:B ^ i*(s+1)≤B ^ i*B:=Nat.mul_le_mul_left _ hs;rw[Nat.mul_add] at h1;omega
def Len (B x n:Nat):Prop:=x < B ^ n∧(0 < n→B ^ (n - 1)≤x)
theorem Len.unique{B x m n:Nat}(hB:1 < B)(h:Len B x m)(k:Len B x n):m=n:=by
 rcases Nat.lt_trichotomy m n with hl | hl | hl
 ·exfalso
  have h1:=k.2 (by omega);have h2:=Nat.pow_le_pow_right (Nat.le_of_lt hB) (show m≤n - 1 by omega);have:=h.1;omega
 ·exact hl
 ·exfalso
  have h1:=h.2 (by omega);have h2:=Nat.pow_le_pow_right (Nat.le_of_lt hB) (show n≤m - 1 by omega);have:=k.1;omega
theorem Len.zero{B:Nat}:Len B 0 0:=⟨by simp,fun h=>absurd h (by omega)⟩
theorem Len.eq_zero{B x:Nat}(h:Len B x 0):x=0:=by have:=h.1;simp at this;omega
theorem Len.pos{B x n:Nat}(hB:0 < B)(h:Len B x n)(hn:0 < n):0 < x:=Nat.lt_of_lt_of_le (Nat.pow_pos hB) (h.2 hn)
theorem Len.zero_iff{B x n:Nat}(hB:0 < B)(h:Len B x n):x=0↔n=0:=by
 constructor
 ·intro hx;rcases Nat.eq_zero_or_pos n with h0 | h0
  ·exact h0
  ·have:=h.pos hB h0;omega
 ·intro hn;subst hn;exact h.eq_zero
theorem Len.le{B x n m:Nat}(hB:0 < B)(h:Len B x n)(hx:x < B ^ m):n≤m:=by
 rcases Nat.lt_or_ge m n with hl | hl
 ·exfalso
  have h1:=h.2 (by omega);have h2:=Nat.pow_le_pow_right hB (show m≤n - 1 by omega);omega
 ·exact hl
theorem Len.top{B x n:Nat}(hB:0 < B)(h:Len B x n)(hn:0 < n):dg B x (n - 1)≠0:=by
 obtain⟨k,rfl⟩:∃k,n=k+1:=⟨n - 1,by omega⟩;have h1:=h.2 hn;simp only[Nat.add_sub_cancel] at h1 ⊢;rw[dg_top h.1];have:0 < x / B ^ k:=Nat.div_pos h1 (Nat.pow_pos hB);omega
theorem Len.of_top{B x k:Nat}(h:x < B ^ (k+1))(ht:dg B x k≠0):Len B x (k+1):=by
 refine⟨h,fun _=>?_⟩;simp only[Nat.add_sub_cancel]
 rcases Nat.lt_or_ge x (B ^ k) with hl | hl
 ·exact absurd (dg_zero hl) ht
 ·exact hl
theorem lt_of_top_zero{B x k:Nat}(hB:0 < B)(h:x < B ^ (k+1))(ht:dg B x k=0):x < B ^ k:=by
 rw[dg_top h] at ht
 rcases Nat.lt_or_ge x (B ^ k) with hl | hl
 ·exact hl
 ·have:0 < x / B ^ k:=Nat.div_pos hl (Nat.pow_pos hB);omega
theorem Len.lt_of_lt{B x y m n:Nat}(hB:0 < B)(h:Len B x m)(k:Len B y n)(hl:m < n):x < y:=by
 have h1:=k.2 (by omega);have h2:=Nat.pow_le_pow_right hB (show m≤n - 1 by omega);have:=h.1;omega
theorem div_succ(B x i:Nat):x / B ^ i=dg B x i+B*(x / B ^ (i+1)):=by
 unfold dg;rw[Nat.pow_succ,←Nat.div_div_eq_div_mul,Nat.mod_add_div]
theorem lt_of_dg_lt{B x y i:Nat}(he:x / B ^ (i+1)=y / B ^ (i+1))(hd:dg B x i < dg B y i):x < y:=by
 have h1:=div_succ B x i;have h2:=div_succ B y i;rw[he] at h1
 have h3:x / B ^ i < y / B ^ i:=by omega
 rcases Nat.lt_or_ge x y with hl | hl
 ·exact hl
 ·have:=Nat.div_le_div_right (c:=B ^ i) hl;omega
theorem add_round{B X x y s c c' i:Nat}(hX:X+B ^ i*c=x % B ^ i+y % B ^ i)(hs:s+B*c'=c+(dg B x i+dg B y i)):
  X+B ^ i*s+B ^ (i+1)*c'=x % B ^ (i+1)+y % B ^ (i+1):=by
 rw[mod_succ,mod_succ,Nat.pow_succ,Nat.mul_assoc]
 have:X+B ^ i*s+B ^ i*(B*c')=X+B ^ i*(s+B*c'):=by rw[Nat.mul_add];omega
 rw[this,hs,Nat.mul_add,Nat.mul_add];omega
theorem add_end{B X x y c n:Nat}(hX:X+B ^ n*c=x % B ^ n+y % B ^ n)(h:x+y < B ^ n):X=x+y:=by
 rw[Nat.mod_eq_of_lt (by omega),Nat.mod_eq_of_lt (by omega)] at hX
 rcases Nat.eq_zero_or_pos c with h0 | h0
 ·subst h0;omega
 ·have:B ^ n*1≤B ^ n*c:=Nat.mul_le_mul_left _ h0;omega
theorem sub_round{B X x y s c c' i:Nat}(hX:X+y % B ^ i=x % B ^ i+B ^ i*c)(hs:s+dg B y i+c=dg B x i+B*c'):
  X+B ^ i*s+y % B ^ (i+1)=x % B ^ (i+1)+B ^ (i+1)*c':=by
 rw[mod_succ,mod_succ,Nat.pow_succ,Nat.mul_assoc]
 have e:B ^ i*(s+dg B y i+c)=B ^ i*(dg B x i+B*c'):=by rw[hs]
 simp only[Nat.mul_add] at e;omega
theorem sub_end{B X x y c n:Nat}(hX:X+y % B ^ n=x % B ^ n+B ^ n*c)(hx:x < B ^ n)(hyx:y≤x)(hX':X < B ^ n):X=x - y:=by
 rw[Nat.mod_eq_of_lt hx,Nat.mod_eq_of_lt (by omega)] at hX
 rcases Nat.eq_zero_or_pos c with h0 | h0
 ·subst h0;omega
 ·have:B ^ n*1≤B ^ n*c:=Nat.mul_le_mul_left _ h0;omega
def setd (B Z k s:Nat):Nat:=Z % B ^ k+B ^ k*(s+B*(Z / B ^ (k+1)))
theorem setd_val(B Z k s:Nat):setd B Z k s+B ^ k*dg B Z k=Z+B ^ k*s:=by
 unfold setd;have h1:=Nat.mod_add_div Z (B ^ k);rw[div_succ B Z k] at h1;simp only[Nat.mul_add] at h1 ⊢;omega
theorem dg_setd{B Z k s j:Nat}(hB:0 < B)(hs:s < B):dg B (setd B Z k s) j=if j=k then s else dg B Z j:=by
 have hm:Z % B ^ k < B ^ k:=Nat.mod_lt _ (Nat.pow_pos hB);unfold setd
 by_cases h:j=k
 ·subst h;rw[if_pos rfl];unfold dg;rw[Nat.add_mul_div_left _ _ (Nat.pow_pos hB),Nat.div_eq_of_lt hm,Nat.zero_add,Nat.add_mul_mod_self_left,Nat.mod_eq_of_lt hs]
 ·rw[if_neg h]
  rcases Nat.lt_or_ge j k with h' | h'
  ·rw[dg_add_lt hB h'];have e:=Nat.mod_add_div Z (B ^ k)
   conv=>rhs;rw[←e]
   rw[dg_add_lt hB h']
  ·obtain⟨m,rfl⟩:∃m,j=k+1+m:=⟨j - k - 1,by omega⟩;unfold dg;generalize hW:Z / B ^ (k+1)=W
   have e1:∀t,t / B ^ (k+1+m)=t / B ^ (k+1) / B ^ m:=fun t=>by rw[Nat.pow_add,Nat.div_div_eq_div_mul]
   rw[e1,e1,hW]
   congr 2
   rw[Nat.pow_succ,←Nat.div_div_eq_div_mul,Nat.add_mul_div_left _ _ (Nat.pow_pos hB),Nat.div_eq_of_lt hm,Nat.zero_add,Nat.add_mul_div_left _ _ hB,Nat.div_eq_of_lt hs,Nat.zero_add]
theorem mul_round{B X y Z d c c' s i j:Nat}(hZ:Z+B ^ (i+j)*c=X+B ^ i*(d*(y % B ^ j)))
  (hs:s+B*c'=c+d*dg B y j+dg B Z (i+j)):
  setd B Z (i+j) s+B ^ (i+(j+1))*c'=X+B ^ i*(d*(y % B ^ (j+1))):=by
 have h1:=setd_val B Z (i+j) s;rw[mod_succ,←Nat.add_assoc,Nat.pow_succ,Nat.mul_assoc]
 have e:B ^ (i+j)*(s+B*c')=B ^ (i+j)*(c+d*dg B y j+dg B Z (i+j)):=by rw[hs]
 have e2:B ^ i*(d*(y % B ^ j+B ^ j*dg B y j))=B ^ i*(d*(y % B ^ j))+B ^ (i+j)*(d*dg B y j):=by
  rw[Nat.mul_add,Nat.mul_add,Nat.pow_add];congr 1;rw[Nat.mul_left_comm d,Nat.mul_assoc]
 rw[e2];simp only[Nat.mul_add] at e;omega
end Dg
/- Plain facts on long division, shifts and the like. No program is named here. -/
namespace Dg
/-! ### Division by a word, from the top -/
theorem divw_q{B U d g:Nat}(hd:0 < d):(g+B*U) / d=B*(U / d)+((U % d)*B+g) / d:=by
 have h:=Nat.mod_add_div U d
 have e:g+B*U=d*(B*(U / d))+(U % d*B+g):=by
  conv=>lhs;rw[←h]
  rw[Nat.mul_add,Nat.mul_comm B (U % d),Nat.mul_left_comm B d];omega
 rw[e,Nat.mul_add_div hd]
theorem divw_r{B U d g:Nat}:(g+B*U) % d=((U % d)*B+g) % d:=by
 have h:=Nat.mod_add_div U d
 have e:g+B*U=(U % d*B+g)+d*(B*(U / d)):=by
  conv=>lhs;rw[←h]
  rw[Nat.mul_add,Nat.mul_comm B (U % d),Nat.mul_left_comm B d];omega
 rw[e,Nat.add_mul_mod_self_left]
theorem divw_lt{B U d g:Nat}(hd:0 < d)(hg:g < B):((U % d)*B+g) / d < B:=by
 have h:=Nat.mod_lt U hd;refine Nat.div_lt_of_lt_mul ?_;have:(U % d+1)*B≤d*B:=Nat.mul_le_mul_right _ h;rw[Nat.add_mul,Nat.one_mul] at this;omega
/-! ### Knuth's estimate -/
theorem est_ge{B f s P V R top q r p2:Nat}(hP:P=(top*B+p2)*R+(P % R))(hR:0 < R)(hV:(f*B+s)*R≤V)
  (hqr:q*f+r=top)(hc:B≤q→P / V < q)(h:q < B→r*B+p2 < q*s):P / V < q:=by
 rcases Nat.lt_or_ge q B with hq | hq
 ·have h1:=h hq;have hm:P % R < R:=Nat.mod_lt _ hR
  have e:q*(f*B+s)=q*f*B+q*s:=by rw[Nat.mul_add,Nat.mul_assoc]
  have e2:top*B=q*f*B+r*B:=by rw[←hqr,Nat.add_mul]
  have h2:top*B+p2+1≤q*(f*B+s):=by omega
  have h3:(top*B+p2+1)*R≤q*(f*B+s)*R:=Nat.mul_le_mul_right _ h2;rw[Nat.add_mul (top*B+p2) 1 R,Nat.one_mul] at h3
  have h4:q*(f*B+s)*R≤q*V:=by rw[Nat.mul_assoc];exact Nat.mul_le_mul_left _ hV
  refine Nat.div_lt_of_lt_mul ?_;rw[Nat.mul_comm];omega
 ·exact hc hq
theorem est_le{B f s P V R top q r p2:Nat}(hP:P=(top*B+p2)*R+(P % R))(hV:V < (f*B+s+1)*R)(hV0:0 < V)
  (hqr:q*f+r=top)(hqB:q < B)(hf:B≤f*B+s)(hs:s < B)
  (h:B≤r∨q*s≤r*B+p2):q≤P / V+1:=by
 have h':q*s≤r*B+p2:=by
  rcases h with h | h
  ·have h1:q*s≤B*B:=Nat.mul_le_mul (Nat.le_of_lt hqB) (Nat.le_of_lt hs);have h2:B*B≤r*B:=Nat.mul_le_mul_right _ h;omega
  ·exact h
 have e:q*(f*B+s)=q*f*B+q*s:=by rw[Nat.mul_add,Nat.mul_assoc]
 have e2:top*B=q*f*B+r*B:=by rw[←hqr,Nat.add_mul]
 rcases Nat.eq_zero_or_pos q with h0 | h0
 ·rw[h0];exact Nat.zero_le _
 obtain⟨t,rfl⟩:∃t,q=t+1:=⟨q - 1,by omega⟩
 have h3:t*(f*B+s+1)≤top*B+p2:=by
  have e3:(t+1)*(f*B+s)=t*(f*B+s)+(f*B+s):=Nat.succ_mul _ _;have e4:t*(f*B+s+1)=t*(f*B+s)+t:=Nat.mul_succ _ _;omega
 have h4:t*V≤P:=by
  have h5:t*V≤t*((f*B+s+1)*R):=Nat.mul_le_mul_left _ (Nat.le_of_lt hV);have h6:t*(f*B+s+1)*R≤(top*B+p2)*R:=Nat.mul_le_mul_right _ h3;rw[Nat.mul_assoc] at h6;omega
 exact Nat.add_le_add_right ((Nat.le_div_iff_mul_le hV0).2 h4) 1
theorem take_round{B X P V q c b s c' b' i:Nat}(hX:X+q*(V % B ^ i)=P % B ^ i+B ^ i*(c+b))
  (h:s+q*dg B V i+c+b=dg B P i+B*(c'+b')):
  X+B ^ i*s+q*(V % B ^ (i+1))=P % B ^ (i+1)+B ^ (i+1)*(c'+b'):=by
 rw[mod_succ,mod_succ,Nat.pow_succ,Nat.mul_assoc (B ^ i) B]
 have e:B ^ i*(s+q*dg B V i+c+b)=B ^ i*(dg B P i+B*(c'+b')):=by rw[h]
 have e2:q*(V % B ^ i+B ^ i*dg B V i)=q*(V % B ^ i)+B ^ i*(q*dg B V i):=by rw[Nat.mul_add];congr 1;rw[Nat.mul_left_comm]
 rw[e2];simp only[Nat.mul_add] at e hX ⊢;omega
end Dg
/- Plain facts on shifts of rows of digits. No program is named here. -/
namespace Dg
theorem dg_div_pow(B x k j:Nat):dg B (x / B ^ k) j=dg B x (k+j):=by
 unfold dg;rw[Nat.div_div_eq_div_mul,←Nat.pow_add]
theorem dg_mul_pow_lt{B x k j:Nat}(h0:0 < B)(h:j < k):dg B (B ^ k*x) j=0:=by
 unfold dg;obtain⟨m,rfl⟩:∃m,k=j+(m+1):=⟨k - j - 1,by omega⟩;rw[Nat.pow_add,Nat.mul_assoc,Nat.mul_div_cancel_left _ (Nat.pow_pos h0),Nat.pow_succ,Nat.mul_comm (B ^ m) B,Nat.mul_assoc,Nat.mul_mod_right]
theorem dg_mul_pow_ge{B x k j:Nat}(hB:0 < B):dg B (B ^ k*x) (k+j)=dg B x j:=by
 unfold dg;rw[Nat.pow_add,Nat.mul_div_mul_left _ _ (Nat.pow_pos hB)]
theorem dg_shr{B Y s m:Nat}(hm:B=2 ^ s*m):(Y / 2 ^ s) % B=((Y % B+B*(Y / B % B)) / 2 ^ s) % B:=by
 have e:Y % B+B*(Y / B % B)=Y % (B*B):=by rw[Nat.mod_mul]
 rw[e]
 rcases Nat.eq_zero_or_pos B with h0 | h0
 ·subst h0;simp
 have hm0:0 < m:=by
                        rcases Nat.eq_zero_or_pos m with h | h
                        ·subst h;simp at hm;omega
                        ·exact h
 have h1:=Nat.mod_add_div Y (B*B)
 have e2:Y / 2 ^ s=Y % (B*B) / 2 ^ s+B*m*(Y / (B*B)):=by
  conv=>lhs;rw[←h1]
  have:Y % (B*B)+B*B*(Y / (B*B))=Y % (B*B)+2 ^ s*(B*m*(Y / (B*B))):=by
   congr 1
   conv=>lhs;rw[hm]
   conv=>rhs;rw[hm]
   grind
  rw[this,Nat.add_mul_div_left _ _ (Nat.pow_pos (by omega))]
 rw[e2,Nat.mul_assoc,Nat.add_mul_mod_self_left]
end Dg
namespace Lm
def SameDiv (a b c d:Int):Prop:=∀g:Int,(g ∣ a∧g ∣ b)↔(g ∣ c∧g ∣ d)
theorem SameDiv.refl(a b:Int):SameDiv a b a b:=fun _=>Iff.rfl
theorem SameDiv.step{a b c d:Int}(h:SameDiv a b c d)(q:Int):SameDiv a b d (c - q*d):=fun g=>(h g).trans
 ⟨fun ⟨h1,h2⟩=>⟨h2,Int.dvd_sub h1 (Int.dvd_trans h2 (Int.dvd_mul_left q d))⟩,
  fun ⟨h1,h2⟩=>⟨by have:=Int.dvd_add h2 (Int.dvd_trans h1 (Int.dvd_mul_left q d));rwa [Int.sub_add_cancel] at this,h1⟩⟩
theorem SameDiv.gcd{a b c d:Nat}(h:SameDiv a b c d):Nat.gcd a b=Nat.gcd c d:=by
 refine Nat.dvd_antisymm (Nat.dvd_gcd ?_ ?_) (Nat.dvd_gcd ?_ ?_)
 ·have:=((h (Nat.gcd a b:Nat)).1 ⟨Int.natCast_dvd_natCast.2 (Nat.gcd_dvd_left a b),Int.natCast_dvd_natCast.2 (Nat.gcd_dvd_right a b)⟩).1;exact Int.natCast_dvd_natCast.1 this
 ·have:=((h (Nat.gcd a b:Nat)).1 ⟨Int.natCast_dvd_natCast.2 (Nat.gcd_dvd_left a b),Int.natCast_dvd_natCast.2 (Nat.gcd_dvd_right a b)⟩).2;exact Int.natCast_dvd_natCast.1 this
 ·have:=((h (Nat.gcd c d:Nat)).2 ⟨Int.natCast_dvd_natCast.2 (Nat.gcd_dvd_left c d),Int.natCast_dvd_natCast.2 (Nat.gcd_dvd_right c d)⟩).1;exact Int.natCast_dvd_natCast.1 this
 ·have:=((h (Nat.gcd c d:Nat)).2 ⟨Int.natCast_dvd_natCast.2 (Nat.gcd_dvd_left c d),Int.natCast_dvd_natCast.2 (Nat.gcd_dvd_right c d)⟩).2;exact Int.natCast_dvd_natCast.1 this
def cmb (s:Bool) (u a v b:Nat):Int:=if s then (u:Int)*a - (v:Int)*b else (v:Int)*b - (u:Int)*a
structure St (a b X Y x y u0 u1 u2 v0 v1 v2:Nat) (ev:Bool):Prop where
 hx:(x:Int)=cmb (!ev) u1 X v1 Y
 hy:(y:Int)=cmb ev u2 X v2 Y
 same:SameDiv a b (cmb (!ev) u1 a v1 b) (cmb ev u2 a v2 b)
 det:v2*x+v1*y=X
 yx:y≤x
 u2v2:u2≤v2
 sum:u1+u2≤v1+v2
 v2pos:0 < v2
 v1small:v1 < 4294967296
 u1small:u1 < 4294967296
 prev:(v1=0∧v0=0∧u0=0∧u1=1∧u2=0∧v2=1∧ev=false)∨
  (v0 < 4294967296∧u0 < 4294967296∧0 < v1∧(v0=0→u0=1)∧SameDiv a b (cmb ev u0 a v0 b) (cmb (!ev) u1 a v1 b)∧0≤cmb (!ev) u1 a v1 b∧cmb (!ev) u1 a v1 b < cmb ev u0 a v0 b∧cmb (!ev) u1 a v1 b≤b∧(0 < v0→cmb (!ev) u1 a v1 b < b)∧(0 < v0→cmb ev u0 a v0 b≤b))
theorem St.start{a b X Y:Nat}(hYX:Y≤X):St a b X Y X Y 0 1 0 0 0 1 false where
 hx:=by simp [cmb]
 hy:=by simp [cmb]
 same:=by
  have e1:cmb (!false) 1 a 0 b=a:=by simp [cmb]
  have e2:cmb false 0 a 1 b=b:=by simp [cmb]
  rw[e1,e2];exact SameDiv.refl _ _
 det:=by omega
 yx:=hYX
 u2v2:=by omega
 sum:=by omega
 v2pos:=by omega
 v1small:=by omega
 u1small:=by omega
 prev:=.inl ⟨rfl,rfl,rfl,rfl,rfl,rfl,rfl⟩
theorem collins{a b X Y x y u1 u2 v1 v2 α β S:Nat}{ev:Bool}(ha:a=X*S+α)(hb:b=Y*S+β)(hα:α < S)(hβ:β < S)
  (hx:(x:Int)=cmb (!ev) u1 X v1 Y)(hy:(y:Int)=cmb ev u2 X v2 Y)(u2v2:u2≤v2)(sum:u1+u2≤v1+v2)(v2pos:0 < v2)
  (h1:v2≤y)(h2:v1+v2≤x - y)(hyx:y≤x):
  0≤cmb ev u2 a v2 b∧cmb ev u2 a v2 b < cmb (!ev) u1 a v1 b:=by
 obtain⟨t,rfl⟩:∃t,y=v2+t:=⟨y - v2,by omega⟩;obtain⟨r,rfl⟩:∃r,x=v2+t+(v1+v2)+r:=⟨x - (v2+t) - (v1+v2),by omega⟩
 have hS:0 < S:=by omega
 -- products with S
 have p1:v2*β≤v2*S:=Nat.mul_le_mul_left _ (Nat.le_of_lt hβ);have p2:u2*α≤u2*S:=Nat.mul_le_mul_left _ (Nat.le_of_lt hα);have p3:u2*S≤v2*S:=Nat.mul_le_mul_right _ u2v2;have q1:v1*β≤v1*S:=Nat.mul_le_mul_left _ (Nat.le_of_lt hβ);have q2:u1*α≤u1*S:=Nat.mul_le_mul_left _ (Nat.le_of_lt hα)
 have q3:u1*S+u2*S≤v1*S+v2*S:=by rw[←Nat.add_mul,←Nat.add_mul];exact Nat.mul_le_mul_right _ sum
 have q4:v2*(β+1)≤v2*S:=Nat.mul_le_mul_left _ hβ
 have q5:u2*α+u1*α+(v1+v2)≤v1*S+v2*S:=by
  have w1:(u1+u2)*α≤(v1+v2)*α:=Nat.mul_le_mul_right _ sum;have w2:(v1+v2)*(α+1)≤(v1+v2)*S:=Nat.mul_le_mul_left _ hα;rw[Nat.add_mul u1,Nat.mul_succ] at *;rw[Nat.add_mul v1 v2 S] at w2;omega
 have q6:v1*β+v2*β+(v1+v2)≤v1*S+v2*S:=by
  have w2:(v1+v2)*(β+1)≤(v1+v2)*S:=Nat.mul_le_mul_left _ hβ;rw[Nat.mul_succ,Nat.add_mul,Nat.add_mul] at w2;omega
 rw[Nat.mul_succ] at q4;subst ha hb;cases ev
 ·simp only[cmb,Bool.not_false,if_true,Bool.false_eq_true,if_false] at *
  have e1:((v2:Int)*((Y*S+β:Nat):Int) - u2*((X*S+α:Nat):Int))=((v2+t:Nat):Int)*S+v2*β - u2*α:=by
   rw[hy];push_cast;grind
  have e2:((u1:Int)*((X*S+α:Nat):Int) - v1*((Y*S+β:Nat):Int))=((v2+t+(v1+v2)+r:Nat):Int)*S+u1*α - v1*β:=by
   rw[hx];push_cast;grind
  rw[e1,e2]
  have c1:((v2+t:Nat):Int)*S=((v2*S:Nat):Int)+((t*S:Nat):Int):=by push_cast;grind
  have c2:((v2+t+(v1+v2)+r:Nat):Int)*S=((v2*S:Nat):Int)+((t*S:Nat):Int)+((v1*S:Nat):Int)+((v2*S:Nat):Int)+((r*S:Nat):Int):=by push_cast;grind
  rw[c1,c2,←Int.natCast_mul,←Int.natCast_mul,←Int.natCast_mul,←Int.natCast_mul];omega
 ·simp only[cmb,Bool.not_true,if_true,Bool.false_eq_true,if_false] at *
  have e1:((u2:Int)*((X*S+α:Nat):Int) - v2*((Y*S+β:Nat):Int))=((v2+t:Nat):Int)*S+u2*α - v2*β:=by
   rw[hy];push_cast;grind
  have e2:((v1:Int)*((Y*S+β:Nat):Int) - u1*((X*S+α:Nat):Int))=((v2+t+(v1+v2)+r:Nat):Int)*S+v1*β - u1*α:=by
   rw[hx];push_cast;grind
  rw[e1,e2]
  have c1:((v2+t:Nat):Int)*S=((v2*S:Nat):Int)+((t*S:Nat):Int):=by push_cast;grind
  have c2:((v2+t+(v1+v2)+r:Nat):Int)*S=((v2*S:Nat):Int)+((t*S:Nat):Int)+((v1*S:Nat):Int)+((v2*S:Nat):Int)+((r*S:Nat):Int):=by push_cast;grind
  rw[c1,c2,←Int.natCast_mul,←Int.natCast_mul,←Int.natCast_mul,←Int.natCast_mul];omega
theorem cmb_step(s:Bool)(q u1 u2 v1 v2 a b:Nat):cmb s (u1+q*u2) a (v1+q*v2) b=cmb s u1 a v1 b - (q:Int)*cmb (!s) u2 a v2 b:=by
 cases s<;>simp only[cmb,Bool.not_false,Bool.not_true,if_true,Bool.false_eq_true,if_false]<;>push_cast<;>grind
theorem lt32{v:Nat}(h:v*v < 18446744073709551616):v < 4294967296:=by
 rcases Nat.lt_or_ge v 4294967296 with h' | h'
 ·exact h'
 ·have:=Nat.mul_le_mul h' h';omega
theorem St.bound{a b X Y x y u0 u1 u2 v0 v1 v2:Nat}{ev:Bool}(h:St a b X Y x y u0 u1 u2 v0 v1 v2 ev)(hX:X < 18446744073709551616)
  (h1:v2≤y):v2 < 4294967296∧u2 < 4294967296∧0 < y∧v1+x / y*v2≤X∧u1+x / y*u2≤X∧v1+x / y*v2 < 18446744073709551616∧u1+x / y*u2 < 18446744073709551616:=by
 have hy0:0 < y:=Nat.lt_of_lt_of_le h.v2pos h1;have hyx:=h.yx;have a1:v2*v2≤v2*x:=Nat.mul_le_mul_left _ (by omega);have hd:=h.det;have hv:v2 < 4294967296:=lt32 (by omega);have hq:1≤x / y:=(Nat.le_div_iff_mul_le hy0).2 (by omega);have a2:(v1+x / y*v2)*1≤(v1+x / y*v2)*y:=Nat.mul_le_mul_left _ hy0
 have a3:(v1+x / y*v2)*y≤X:=by
  have e:(v1+x / y*v2)*y=v1*y+v2*(x / y*y):=by rw[Nat.add_mul,Nat.mul_comm (x / y) v2,Nat.mul_assoc]
  have a4:v2*(x / y*y)≤v2*x:=Nat.mul_le_mul_left _ (Nat.div_mul_le_self x y);omega
 have a5:u1+x / y*u2≤v1+x / y*v2:=by
  obtain⟨t,ht⟩:∃t,x / y=t+1:=⟨x / y - 1,by omega⟩;rw[ht,Nat.succ_mul,Nat.succ_mul];have:=Nat.mul_le_mul_left t h.u2v2;have:=h.sum;omega
 have:=h.u2v2;exact⟨hv,by omega,hy0,by omega,by omega,by omega,by omega⟩
theorem St.next{a b X Y x y u0 u1 u2 v0 v1 v2 α β S:Nat}{ev:Bool}(h:St a b X Y x y u0 u1 u2 v0 v1 v2 ev)(hX:X < 18446744073709551616)
  (ha:a=X*S+α)(hb:b=Y*S+β)(hα:α < S)(hβ:β < S)(h1:v2≤y)(h2:v1+v2≤x - y):
  St a b X Y y (x % y) u1 u2 (u1+x / y*u2) v1 v2 (v1+x / y*v2) (!ev):=by
 have hc:=collins ha hb hα hβ h.hx h.hy h.u2v2 h.sum h.v2pos h1 h2 h.yx;obtain⟨b1,b2,hy0,_,_,_,_⟩:=h.bound hX h1;have hq:1≤x / y:=(Nat.le_div_iff_mul_le hy0).2 (by have:=h.yx;omega);have hm:=Nat.mod_add_div x y;have hsum:=h.sum;have hu:=h.u2v2;obtain⟨t,ht⟩:∃t,x / y=t+1:=⟨x / y - 1,by omega⟩;have ht2:=Nat.mul_le_mul_left t h.u2v2;refine⟨by rw[Bool.not_not];exact h.hy,?_,?_,?_,Nat.le_of_lt (Nat.mod_lt _ hy0),?_,?_,?_,b1,b2,.inr ?_⟩
 ·rw[cmb_step,Bool.not_not,←h.hx,←h.hy]
  have:((x % y+y*(x / y):Nat):Int)=x:=by rw[hm]
  push_cast at this ⊢
  grind
 ·have:=h.same.step (x / y:Nat);rw[Bool.not_not,cmb_step,Bool.not_not];exact this
 ·have hd:=h.det
  have e:(v1+x / y*v2)*y+v2*(x % y)=v1*y+v2*(x % y+y*(x / y)):=by grind
  rw[e,hm];omega
 ·rw[ht,Nat.succ_mul,Nat.succ_mul];omega
 ·rw[ht,Nat.succ_mul,Nat.succ_mul];omega
 ·have:=h.v2pos;have:0 < x / y*v2:=Nat.mul_pos hq h.v2pos;omega
 ·rw[Bool.not_not];refine⟨h.v1small,h.u1small,h.v2pos,?_,h.same,hc.1,hc.2,?_,?_,?_⟩
  ·intro h0
   rcases h.prev with ⟨_,_,_,p,_⟩ | ⟨_,_,p,_⟩
   ·exact p
   ·omega
  ·rcases h.prev with ⟨p1,p2,p3,p4,p5,p6,p7⟩ | ⟨_,_,_,_,_,_,_,p,_⟩
   ·subst p5 p6 p7;simp [cmb]
   ·have:=hc.2;omega
  ·intro h0
   rcases h.prev with ⟨p1,_⟩ | ⟨_,_,_,_,_,_,_,p,_⟩
   ·omega
   ·have:=hc.2;omega
  ·intro h0
   rcases h.prev with ⟨p1,_⟩ | ⟨_,_,_,_,_,_,_,p,_⟩
   ·omega
   ·exact p
theorem St.result{a b X Y x y u0 u1 u2 v0 v1 v2:Nat}{ev:Bool}(h:St a b X Y x y u0 u1 u2 v0 v1 v2 ev)(h0:v0≠0):
  ∃n r:Nat,cmb ev u0 a v0 b=n∧cmb (!ev) u1 a v1 b=r∧r < n∧r < b∧n≤b∧Nat.gcd n r=Nat.gcd a b:=by
 rcases h.prev with ⟨_,p,_⟩ | ⟨_,_,_,_,p1,p2,p3,_,p5,p7⟩
 ·exact absurd p h0
 ·obtain⟨r,hr⟩:=Int.eq_ofNat_of_zero_le p2;obtain⟨n,hn⟩:=Int.eq_ofNat_of_zero_le (Int.le_of_lt (Int.lt_of_le_of_lt p2 p3));have p6:=p5 (by omega);have p8:=p7 (by omega);refine⟨n,r,hn,hr,by omega,by omega,by omega,?_⟩;rw[hn,hr] at p1;exact p1.gcd.symm
end Lm
namespace Rt
def Above (a n r:Nat):Prop:=∀s,s ^ n≤a→s≤r
theorem Above.pos{a n r:Nat}(h:Above a n r)(ha:0 < a):0 < r:=h 1 (by rw[Nat.one_pow];exact ha)
def IsRoot (a n r:Nat):Prop:=r ^ n≤a∧a < (r+1) ^ n
theorem IsRoot.unique{a n r s:Nat}(h:IsRoot a n r)(k:IsRoot a n s):r=s:=by
 rcases Nat.lt_trichotomy r s with hl | hl | hl
 ·have:=Nat.pow_le_pow_left (show r+1≤s from hl) n;have:=h.2;have:=k.1;omega
 ·exact hl
 ·have:=Nat.pow_le_pow_left (show s+1≤r from hl) n;have:=k.2;have:=h.1;omega
end Rt
namespace Go.Proofs.YteblinkehldghaaGreatDoor
open Go.RowKit Dg
def Slc (w:World) (p:Option Addr) (n:Nat) (f:Nat→Nat):Prop:=
 0 < n→∃b off,p=some ⟨b,off,none⟩∧∀j,j < n→w.cell? ⟨b,off+j,none⟩=some (.int .u32 (f j:Nat))
theorem Slc.of_cells{w w':World}{p:Option Addr}{n:Nat}{f:Nat→Nat}(h:Slc w p n f)
  (hc:∀a:Addr,a.block < w.heap.size→w'.cell? a=w.cell? a):Slc w' p n f:=fun h0=>by
 obtain⟨b,off,hp,hj⟩:=h h0;exact⟨b,off,hp,fun j hn=>by rw[hc _ (World.block_lt_of_cell? _ _ (hj j hn))];exact hj j hn⟩
theorem Slc.below{w w':World}{p:Option Addr}{n:Nat}{f:Nat→Nat}(h:Slc w p n f)(hb:Below w.heap.size w w'):Slc w' p n f:=
 h.of_cells fun _ ha=>hb.cell ha
theorem Slc.take{w:World}{p:Option Addr}{n m:Nat}{f:Nat→Nat}(h:Slc w p n f)(hm:m≤n):Slc w p m f:=fun h0=>by
 obtain⟨b,off,hp,hj⟩:=h (by omega);exact⟨b,off,hp,fun j hn=>hj j (by omega)⟩
theorem Slc.congr{w:World}{p:Option Addr}{n:Nat}{f g:Nat→Nat}(h:Slc w p n f)(e:∀j,j < n→f j=g j):Slc w p n g:=fun h0=>by
 obtain⟨b,off,hp,hj⟩:=h h0;exact⟨b,off,hp,fun j hn=>by rw[←e j hn];exact hj j hn⟩
theorem Slc.zero{w:World}{p:Option Addr}{f:Nat→Nat}:Slc w p 0 f:=fun h=>absurd h (by omega)
theorem Slc.ofRow{w:World}{b t n:Nat}{f:Nat→Nat}(h:w.rowIs b t n (fun j=>.int .u32 (f j:Nat))):Slc w (some ⟨b,0,none⟩) n f:=fun _=>
 ⟨b,0,rfl,fun j hj=>by rw[Nat.zero_add];exact h.cell hj⟩
def Rep (B:Nat) (w:World) (v:Value) (x:Nat):Prop:=
 ∃p n cap,v=.slice p n cap∧n≤cap∧Len B x n∧Slc w p n (dg B x)
theorem Rep.below{B:Nat}{w w':World}{v:Value}{x:Nat}(h:Rep B w v x)(hb:Below w.heap.size w w'):Rep B w' v x:=by
 obtain⟨p,n,cap,hv,hn,hl,hs⟩:=h;exact⟨p,n,cap,hv,hn,hl,hs.below hb⟩
theorem Rep.nil{B:Nat}{w:World}:Rep B w (.slice none 0 0) 0:=⟨none,0,0,rfl,Nat.le_refl _,Len.zero,Slc.zero⟩
theorem Rep.alloc{B:Nat}{w:World}{v:Value}{x:Nat}(h:Rep B w v x)(o:Obj):Rep B (w.alloc o) v x:=
 h.below ((Below.refl _ _).alloc (Nat.le_refl _) o)
theorem Rep.drew{B:Nat}{w:World}{v:Value}{x:Nat}(h:Rep B w v x):Rep B w.drew v x:=h.below (Below.refl _ _).drew
theorem rowIs_below{w w':World}{b t n:Nat}{f:Nat→Value}(h:w.rowIs b t n f)(hb:Below w.heap.size w w'):w'.rowIs b t n f:=
 h.of_block (hb.block _ h.lt)
end Go.Proofs.YteblinkehldghaaGreatDoor
