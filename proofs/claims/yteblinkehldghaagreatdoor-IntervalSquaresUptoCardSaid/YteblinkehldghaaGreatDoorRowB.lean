/- A parameter of type api.Rat, opened: a sign and two slices of words; what bulk it may have. -/
import Derived.Test.YteblinkehldghaaGreatDoorRowA
import Derived.Test.YteblinkehldghaaGreatDoorLawD
import Derived.Lib.SmallJoins
namespace Go.Proofs.YteblinkehldghaaGreatDoor
open Go.ChangeShapes Go.WideShapes Go.ChangeAt Go.RowKit Dg
theorem exists_dg(f:Nat→Nat):∀n:Nat,(∀j,j < n→f j < W32)→∃x,x < W32 ^ n∧∀j,j < n→dg W32 x j=f j
 | 0,_=>⟨0,by simp,fun j hj=>absurd hj (by omega)⟩
 | n+1,hf=>by
  obtain⟨x,hx,hd⟩:=exists_dg f n fun j hj=>hf j (by omega)
  refine⟨x+W32 ^ n*f n,add_lt hx (hf n (by omega)),fun j hj=>?_⟩
  by_cases h:j=n
  ·subst h;exact dg_add_eq W32_pos hx (hf j (by omega))
  ·rw[dg_add_lt W32_pos (by omega)];exact hd j (by omega)
theorem bulk_one_le{H:Type}(d:DataW H):1≤Rows.uptoBulk d:=by
 cases d with
 | lit l=>cases l<;>simp [Rows.uptoBulk]
 | nil=>simp [Rows.uptoBulk]
 | ptr d=>simp [Rows.uptoBulk]
 | slice elems spare=>simp [Rows.uptoBulk]
 | agg parts=>simp [Rows.uptoBulk]
 | iface t d=>simp [Rows.uptoBulk]
 | map entries=>simp [Rows.uptoBulk]
 | held h=>simp [Rows.uptoBulk]
theorem bulk_length{H:Type}(l:List (DataW H)):l.length≤Rows.uptoBulkAll l:=by
 induction l with
 | nil=>simp [Rows.uptoBulkAll]
 | cons x r ih=>have:=bulk_one_le x;simp only[Rows.uptoBulkAll,List.length_cons];omega
theorem bulk_bound{H:Type}{l:List (DataW H)}(hk:Rows.uptoSmall H l=true):Rows.uptoBulkAll l≤1048576:=of_decide_eq_true hk
section
variable {H:Type} {enc:TypeId×Value→H} {W:World} {spare:Nat→Bool} {held:Bool}
theorem raw_open{t fuel:Nat}{v:Value}{y:DataW H×List MemPlace}(ht:Tryz.prog.underlying t=some (.slice 65))(h:DataW.trod enc Tryz.prog W 0 spare held fuel t [v]=some y)(hb:Rows.uptoBulk y.1≤1048576):∃x,Raw W v x:=by
 rcases open_ints ht Tryz.underlying65 (by kernel_rfl) h with ⟨hv,rfl⟩ | ⟨a,len,cap,zs,hv,_,hle,_,hlen,rfl,hc,hw⟩
 ·injection hv with hv
  subst hv;exact⟨0,none,0,0,rfl,Nat.le_refl _,by omega,by simp,Slc.zero⟩
 ·injection hv with hv
  subst hv
  have hlz:len≤zs.length:=by rw[hlen];split<;>omega
  have h1:len≤1048576:=by
   have h2:(zs.take len).length≤Rows.uptoBulkAll (H:=H) (lits .u32 (zs.take len)):=by
    have:=bulk_length (H:=H) (lits .u32 (zs.take len));simpa[lits] using this
   simp only[Rows.uptoBulk] at hb;rw[List.length_take] at h2;omega
  have hz:∀j,j < zs.length→0≤zs.getD j 0∧zs.getD j 0 < 4294967296:=fun j hj=>by
   have hm:zs.getD j 0 ∈ zs:=by rw[List.getD_eq_getElem?_getD,List.getElem?_eq_getElem hj];exact List.getElem_mem hj
   have:=bounds_u32 (hw _ hm);omega
  obtain⟨x,hx,hd⟩:=exists_dg (fun j=>(zs.getD j 0).toNat) len fun j hj=>by
   have:=hz j (by omega);show(zs.getD j 0).toNat < 4294967296;omega
  refine⟨x,some a,len,cap,rfl,hle,by omega,hx,fun h0=>?_⟩;obtain⟨b,off,ha,hcell⟩:=ints_at hc (by omega);refine⟨b,off,by rw[ha],fun j hj=>?_⟩;have hj2:j < zs.length:=Nat.lt_of_lt_of_le hj hlz;rw[hcell j hj2,hd j hj,Int.toNat_of_nonneg (hz j hj2).1]
end
theorem laidOut:laidOutB Tryz.prog=true:=by kernel_rfl
end Go.Proofs.YteblinkehldghaaGreatDoor
