/- The natural numbers of the program: words, Of, Add. -/
import Derived.Test.YteblinkehldghaaGreatDoorProg
import Derived.Test.YteblinkehldghaaGreatDoorBase
set_option maxHeartbeats 400000
set_option maxRecDepth 100000
namespace Go.Proofs.YteblinkehldghaaGreatDoor
open Go.RowKit Dg
abbrev Tq:=Bool×Nat×Nat
abbrev Ti:=Tq×Tq×Bool×Bool
abbrev Tj:=Tq×Tq×Bool×Bool×Bool
abbrev Ts:=(Int×Tq)×(Int×Tq)×Bool
abbrev Bw (w W:World):Prop:=Below w.heap.size w W
def W32:Nat:=4294967296
theorem W32_pos:0 < W32:=by decide
theorem W32_one:1 < W32:=by decide
theorem dg_u32(x j:Nat):dg W32 x j < 4294967296:=dg_lt W32_pos
theorem word_any(p)(n cap x k:Nat)(w:World)(hn:n≤1099511627776)(hk:k≤1099511627776)(hx:x < W32 ^ n)(hs:Slc w p n (dg W32 x)):
  Calls Tryz.prog 173 #[.slice p n cap,.int .i64 k] w fun e w'=>e=.returned (.int .u32 (dg W32 x k))∧w=w':=by
 by_cases h:k < n
 ·obtain⟨b,off,rfl,hc⟩:=hs (by omega);have hck:=hc k h;clear hs hc hx;go_enter Tryz.func173,Tryz.ntmps173
  go_wp2
  go_ret
  exact⟨rfl,rfl⟩
 ·have hz:dg W32 x k=0:=dg_zero' W32_pos hx (by omega);rw[hz];clear hs hx hz;go_enter Tryz.func173,Tryz.ntmps173
  go_wp2
  go_ret
  exact⟨rfl,rfl⟩
theorem Of_any(p)(n cap x:Nat)(w:World)(hn:n≤1099511627776)(hnc:n≤cap)(hx:x < W32 ^ n)(hs:Slc w p n (dg W32 x)):
  Calls Tryz.prog 156 #[.slice p n cap] w fun e w'=>∃m,e=.returned (.slice p m cap)∧m≤n∧Len W32 x m∧w=w':=by
 go_enter Tryz.func156,Tryz.ntmps156
 go_wp2
 go_loop [3] (fun i=>∃m:Nat,m≤n∧i=.int .i64 m∧x < W32 ^ m) (fun i=>(intOf i).toNat)
 case atStart=>exact⟨n,Nat.le_refl _,rfl,hx⟩
 case round=>
  obtain⟨m,hm,rfl,hxm⟩:=hrel
  rcases Nat.eq_zero_or_pos m with h0 | h0
  ·subst h0;have hl:Len W32 x 0:=⟨hxm,fun h=>absurd h (by omega)⟩;clear hs hx hxm
   go_wp2
   go_ret
   exact⟨0,rfl,Nat.zero_le _,hl,rfl⟩
  ·obtain⟨b,off,rfl,hc⟩:=hs (by omega);obtain⟨k,rfl⟩:∃k,m=k+1:=⟨m - 1,by omega⟩;have hck:=hc k (by omega)
   by_cases ht:dg W32 x k=0
   ·have hlt:x < W32 ^ k:=lt_of_top_zero W32_pos hxm ht;rw[ht] at hck;clear hs hx hxm hc ht
    have e1:((k+1:Nat):Int) - 1=k:=by omega
    go_wp2
    go_round
    case rel=>exact⟨k,by omega,by go_num,hlt⟩
    case measure=>simp [intOf]
   ·have hl:Len W32 x (k+1):=Len.of_top hxm ht
    have ht':((dg W32 x k:Nat):Int)≠0:=by omega
    have hb:(((dg W32 x k:Nat):Int) == 0)=false:=by simpa using ht
    clear hs hx hxm hc ht
    go_wp2
    go_ret
    exact⟨k+1,by go_num,hm,hl,rfl⟩
theorem Tryz.infoU32:(Tryz.prog.info? 65).map (fun i=>(i.zero,i.size,i.bytes))=some (some (.int .u32 0),1,4):=by kernel_rfl
structure Mk (B:Nat) (w wr:World) (N X:Nat):Prop where
 bel:Bw w wr
 row:wr.rowIs w.heap.size 65 N (fun j=>.int .u32 (dg B X j:Nat))
theorem Mk.start(B:Nat)(w:World)(N:Nat):Mk B w (w.alloc (.cells (madeCells #[.int .u32 0] N) 65)) N 0:=
 ⟨(Below.refl _ _).alloc (Nat.le_refl _) _,(World.rowIs_made w _ N 65).congr (fun j _=>by simp [dg])⟩
theorem Mk.set{B:Nat}{w wr:World}{N X:Nat}(h:Mk B w wr N X)(hB:0 < B)(k s:Nat)(hs:s < B):
  Mk B w (wr.setCell ⟨w.heap.size,k,none⟩ (.int .u32 (s:Nat))) N (setd B X k s):=
 ⟨h.bel.setCell (Nat.le_refl _) _,(h.row.set k _).congr (fun j _=>by
  rw[dg_setd hB hs];split<;>rfl)⟩
theorem setd_new{B X k s:Nat}(hX:X < B ^ k):setd B X k s=X+B ^ k*s:=by
 have h:=setd_val B X k s;rw[dg_zero hX] at h;simpa using h
theorem Mk.push{B:Nat}{w wr:World}{N X k s:Nat}(h:Mk B w wr N X)(hB:0 < B)(hX:X < B ^ k)(hs:s < B){v:Int}(hv:v=(s:Nat)):
  Mk B w (wr.setCell ⟨w.heap.size,k,none⟩ (.int .u32 v)) N (X+B ^ k*s):=by
 rw[hv,←setd_new hX];exact h.set hB k s hs
theorem Mk.cell{B:Nat}{w wr:World}{N X j:Nat}(h:Mk B w wr N X)(hj:j < N):wr.cell? ⟨w.heap.size,j,none⟩=some (.int .u32 (dg B X j:Nat)):=h.row.cell hj
theorem Mk.slc{B:Nat}{w wr:World}{N X:Nat}(h:Mk B w wr N X):Slc wr (some ⟨w.heap.size,0,none⟩) N (dg B X):=Slc.ofRow h.row
theorem W32_val:W32=4294967296:=rfl
theorem sum_lt{x y na nb:Nat}(hx:x < W32 ^ na)(hy:y < W32 ^ nb):x+y < W32 ^ (max na nb+1):=by
 have h1:W32 ^ na≤W32 ^ max na nb:=Nat.pow_le_pow_right W32_pos (by omega);have h2:W32 ^ nb≤W32 ^ max na nb:=Nat.pow_le_pow_right W32_pos (by omega);have h3:W32 ^ max na nb*2≤W32 ^ max na nb*W32:=Nat.mul_le_mul_left _ (by decide);rw[Nat.pow_succ];omega
theorem Add_any(va vb:Value)(x y:Nat)(w:World)(ha:Rep W32 w va x)(hb:Rep W32 w vb y)(hx:x < W32 ^ 1000000000)(hy:y < W32 ^ 1000000000):
  Calls Tryz.prog 151 #[va,vb] w fun e w'=>∃v,e=.returned v∧Rep W32 w' v (x+y)∧Bw w w':=by
 obtain⟨pa,na,ca,rfl,hca,hla,hsa⟩:=ha;obtain⟨pb,nb,cb,rfl,hcb,hlb,hsb⟩:=hb;have hna:=hla.le W32_pos hx;have hnb:=hlb.le W32_pos hy;clear hx hy
 have hmk:∀N:Nat,N≤2000000000→∀w:World,(Instr.makeSlice 22 (.int .i64 (N:Int)) (.int .i64 (N:Int))).run Tryz.prog w=.ok (.slice (some ⟨w.heap.size,0,none⟩) N N) (w.alloc (.cells (madeCells #[.int .u32 0] N) 65)):=fun N hN w=>
  run_make_row' (P:=Tryz.prog) 22 65 (.int .u32 0) 4 Tryz.underlying22 Tryz.infoU32 rfl .i64 .i64 N (by omega) (by omega) w
 have hma:=hmk (na+1) (by omega);have hmb:=hmk (nb+1) (by omega);simp only[Int.natCast_add,Int.cast_ofNat_Int] at hma hmb;clear hmk
 rcases Nat.lt_or_ge na nb with hle | hle
 all_goals
  go_enter Tryz.func151,Tryz.ntmps151
  go_wp2
  clear hma hmb
  go_loopw [6,17] (fun c i wr=>∃k X cc:Nat,k≤max na nb+1∧i=.int .i64 k∧c=.int .u64 cc∧cc≤1∧X < W32 ^ k∧X+W32 ^ k*cc=x % W32 ^ k+y % W32 ^ k∧Mk W32 w wr (max na nb+1) X) (fun _ i _=>max na nb+1 - (intOf i).toNat)
  case atStart=>
   refine⟨0,0,0,by omega,rfl,rfl,by omega,by simp,by simp [Nat.mod_one],?_⟩
   first
    | (rw[Nat.max_eq_right (by omega)];exact Mk.start _ _ _)
    | (rw[Nat.max_eq_left (by omega)];exact Mk.start _ _ _)
  case round=>
   obtain⟨k,X,c,hk,rfl,rfl,hc,hX,hXc,hM⟩:=hrel;have hsa':=hsa.below hM.bel;have hsb':=hsb.below hM.bel;have Hxc:Hid (X+W32 ^ k*c=x % W32 ^ k+y % W32 ^ k):=hXc;have HX:Hid (X < W32 ^ k):=hX;clear hXc hX
   by_cases hlt:k < max na nb+1
   ·have hxa:=hla.1;have hyb:=hlb.1;have hwa:=word_any pa na ca x k wr (by omega) (by omega) hxa hsa';have hwb:=word_any pb nb cb y k wr (by omega) (by omega) hyb hsb'
    have hlt':(na < nb∧k < nb+1)∨(nb≤na∧k < na+1):=by omega
    have hda:=dg_u32 x k;have hdb:=dg_u32 y k;have hds:(c+(dg W32 x k+dg W32 y k)) % 4294967296 < W32:=Nat.mod_lt _ (by decide)
    have hround:=fun s c'=>add_round (s:=s) (c':=c') Hxc.out
    generalize dg W32 x k=a at *;generalize dg W32 y k=b at *;have HR:Hid (∀s c',s+W32*c'=c+(a+b)→X+W32 ^ k*s+W32 ^ (k+1)*c'=x % W32 ^ (k+1)+y % W32 ^ (k+1)):=hround;clear hround hxa hyb;have hcell:=hM.cell (show k < max na nb+1 from hlt);have hfrz:=hM.row.frozen k;go_wp2_with fail;refine hwa.mono ?_;rintro e w' ⟨rfl,rfl⟩;go_wp2_with fail;refine hwb.mono ?_;rintro e w' ⟨rfl,rfl⟩;clear hwa hwb;go_wp2_with fail
    go_roundw
    case rel=>
     exact⟨k+1,X+W32 ^ k*((c+(a+b)) % 4294967296),(c+(a+b)) / 4294967296,by omega,by go_num,congrArg (Value.int .u64) (by omega),by omega,add_lt HX.out hds,
      HR.out _ _ (by rw[W32_val];omega),hM.push W32_pos HX.out hds (by omega)⟩
    case measure=>simp [intOf];omega
   ·have hk':k=max na nb+1:=by omega
    have hX:X=x+y:=by
     subst hk';exact add_end Hxc.out (sum_lt hla.1 hlb.1)
    have hXl:=HX.out;have hsl:=hM.slc;go_wp2_with fail;have hbel:=hM.bel;clear hM Hxc HX;rw[←hk'] at hsl;refine(Of_any _ _ _ X _ (by omega) (Nat.le_refl _) ?_ ?_).mono ?_
    ·first
      | (rw[show nb+1=k by omega];exact hXl)
      | (rw[show na+1=k by omega];exact hXl)
    ·first
      | (rw[show nb+1=k by omega];exact hsl)
      | (rw[show na+1=k by omega];exact hsl)
    rintro e w' ⟨m,rfl,hm,hlen,rfl⟩;go_wp2_with fail
    go_ret
    rw[←hX];exact⟨_,rfl,⟨_,_,_,rfl,hm,hlen,hsl.take (by omega)⟩,hbel⟩
end Go.Proofs.YteblinkehldghaaGreatDoor
