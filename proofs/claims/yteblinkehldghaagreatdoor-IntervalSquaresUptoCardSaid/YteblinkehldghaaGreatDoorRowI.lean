/- A parameter of type api.Interval, opened: two numbers and two flags. -/
import Derived.Test.YteblinkehldghaaGreatDoorRowB
import Derived.Deep.Strs
import Derived.Test.YteblinkehldghaaGreatDoorIvC
namespace Go.Proofs.YteblinkehldghaaGreatDoor
open Go.ChangeShapes Go.WideShapes Go.ChangeAt Go.RowKit Dg Joins Go.Deep
theorem array8{α:Type}{cs:Array α}(h:cs.size=8):∃c0 c1 c2 c3 c4 c5 c6 c7,cs=#[c0,c1,c2,c3,c4,c5,c6,c7]:=by
 obtain⟨l⟩:=cs
 match l,h with
 | [c0,c1,c2,c3,c4,c5,c6,c7],_=>exact⟨c0,c1,c2,c3,c4,c5,c6,c7,rfl⟩
theorem cells_rat:Tryz.prog.cellsOf 24=3:=by kernel_rfl
theorem cells_bool:Tryz.prog.cellsOf 4=1:=by kernel_rfl
theorem cells_words:Tryz.prog.cellsOf 22=1:=by kernel_rfl
theorem cells_iv:Tryz.prog.cellsOf 26=8:=by kernel_rfl
section
variable {H:Type} {enc:TypeId×Value→H} {W:World} {spare:Nat→Bool} {held:Bool}
set_option maxRecDepth 100000 in
theorem rat_cells{n:Nat}{c0 c1 c2:Value}{y:DataW H×List MemPlace}(h:DataW.trod enc Tryz.prog W 0 spare held n 24 [c0,c1,c2]=some y)(hb:Rows.uptoBulk y.1≤1048576):∃a s p k c q l d,c0=.bool s∧c1=.slice p k c∧c2=.slice q l d∧NRep W (.agg #[c0,c1,c2]) a:=by
 obtain⟨y0,y1,y2,m,hx,_,h0,h1,h2⟩:=trod_struct3 Tryz.underlying24 h;simp only[cells_bool,cells_words] at h0 h1 h2;have h0':DataW.trod enc Tryz.prog W 0 spare held m 4 [c0]=some y0:=h0;have h1':DataW.trod enc Tryz.prog W 0 spare held m 22 [c1]=some y1:=h1;have h2':DataW.trod enc Tryz.prog W 0 spare held m 22 [c2]=some y2:=h2;subst hx;simp only[Rows.uptoBulk,Rows.uptoBulkAll] at hb;obtain⟨x,hx⟩:=raw_open Tryz.underlying22 h1' (by omega);obtain⟨z,hz⟩:=raw_open Tryz.underlying22 h2' (by omega)
 obtain⟨s,hs⟩:∃s,c0=.bool s:=by
  obtain⟨s,hs,_⟩:=DataW.trod_bool Tryz.underlying4 h0'
  injection hs with hs
  exact⟨s,hs⟩
 subst hs;obtain⟨p,k,c,rfl,_⟩:=id hx;obtain⟨q,l,d,rfl,_⟩:=id hz;exact⟨(s,x,z),s,p,k,c,q,l,d,rfl,rfl,rfl,_,_,rfl,hx,hz⟩
set_option maxRecDepth 100000 in
theorem iv_open{r:Reach}{b0:Nat}{v:Value}{d:DataW H}{p:List MemPlace}(hv:Value.okWide Tryz.prog W r b0 26 v)(h:DataW.Trod enc Tryz.prog W 0 spare held 26 v d p)(hb:Rows.uptoBulk d≤1048576):∃a,IRep W v a:=by
 obtain⟨cs,rfl,hsz⟩:=okWide_struct Tryz.underlying26 hv;obtain⟨c0,c1,c2,c3,c4,c5,c6,c7,rfl⟩:=array8 (hsz.trans cells_iv);obtain⟨fuel,hf⟩:=h;obtain⟨y0,y1,y2,y3,n,hx,_,h0,h1,h2,h3⟩:=trod_struct4 Tryz.underlying26 hf;simp only[cells_bool,cells_rat] at h0 h1 h2 h3;have h0':DataW.trod enc Tryz.prog W 0 spare held n 24 [c0,c1,c2]=some y0:=h0;have h1':DataW.trod enc Tryz.prog W 0 spare held n 24 [c3,c4,c5]=some y1:=h1;have h2':DataW.trod enc Tryz.prog W 0 spare held n 4 [c6]=some y2:=h2;have h3':DataW.trod enc Tryz.prog W 0 spare held n 4 [c7]=some y3:=h3;simp only[Prod.mk.injEq] at hx;obtain⟨rfl,_⟩:=hx;simp only[Rows.uptoBulk,Rows.uptoBulkAll] at hb;obtain⟨a,s,p,k,c,q,l,d,rfl,rfl,rfl,ha⟩:=rat_cells h0' (by omega);obtain⟨a',s',p',k',c',q',l',d',rfl,rfl,rfl,ha'⟩:=rat_cells h1' (by omega);obtain⟨x,hx,_⟩:=DataW.trod_bool Tryz.underlying4 h2';obtain⟨y,hy,_⟩:=DataW.trod_bool Tryz.underlying4 h3'
 injection hx with hx
 injection hy with hy
 subst hx hy;exact⟨(a,a',x,y),s,p,k,c,q,l,d,s',p',k',c',q',l',d',x,y,rfl,ha,ha',rfl,rfl⟩
end
theorem iv_rec:Tryz.prog.readableRec 26=true:=by kernel_rfl
theorem iv_row:26 < Tryz.prog.types.size:=of_decide_eq_true (by kernel_rfl)
theorem iv_shut{H:Type}{enc:TypeId×Value→H}{W W':World}{sp:Nat→Bool}{v:Value}{d:DataW H}{p:List MemPlace}(h:DataW.Trod enc Tryz.prog W 0 (fun _=>true) true 26 v d p)(hB:Below W.heap.size W W')
  (hlt:∀x ∈ p,x.block < W.heap.size)(hs:∀x ∈ p,sp x.block=true):DataW.Trod enc Tryz.prog W' 0 sp true 26 v d p:=
 WideElems.Trod_stays laidOut iv_rec iv_row h (fun x hx=>hB.same (hlt x hx)) hs
end Go.Proofs.YteblinkehldghaaGreatDoor
