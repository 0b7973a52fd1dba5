/- The variable of a struct of any number of cells. -/
import Derived.Test.YteblinkehldghaaGreatDoorGrd
import Derived.Deep.RegionHeld3
namespace Go.Proofs.YteblinkehldghaaGreatDoor
open Go.RowKit Dg
section
variable {P:Program} {ops:Array Oper} {Q:Exit→Act→World→Prop} {md:Region.Mode} {S:World→Prop} {v:Value} {fuel:Nat} {listed:Array Bool} {a:Act} {w:World}
theorem wt(i:Nat){oi:Oper}(hi:ops[i]?=some oi)(hy:YieldsIf P ops S oi v a)
  (h:wpAnyH P md ops Q S fuel (listed.setIfInBounds i true) (a.put oi.dst v) w)(hs:Region.noSelect ops=true:=by kernel_rfl)(hf:Region.free md ops listed i=true:=by kernel_rfl)
  (hr:(Region.ready md ops listed).contains i=true:=by kernel_rfl)(hQ:∀c a w,Q (.panic c) (a.put oi.dst v) w→Q (.panic c) a w:=by exact fun _ _ _ h=>h)(hS:S w:=by assumption):
  wpAnyH P md ops Q S (fuel+1) listed a w:=wpAnyH_take hi hs hf hr hQ hy hS h
abbrev Op1 (P:Program) (ops:Array Oper) (Q:Exit→Act→World→Prop) (md:Region.Mode) (S:World→Prop) (fuel:Nat) (listed:Array Bool) (a:Act) (w:World) (i:Nat) (o:Oper):Prop:=
 ∀K':Act→World→Prop,Shut (∀a w,S w→(S w→wpAnyH P md ops Q S fuel (listed.setIfInBounds i true) a w)→K' a w)→if Region.wanted o (yielded ops a.tmps)=true then Oper.wp P o a w K' Q else K' (a.put o.dst undef) w
theorem wr(i:Nat){o:Oper}(ho:ops[i]?=some o)(h:Op1 P ops Q md S fuel listed a w i o)(hr:Region.ready md ops listed=[i]:=by decide+kernel):wpAnyH P md ops Q S (fuel+1) listed a w:=
 wpAnyH_ready hr (by simp) (.cons ho h .nil)
theorem wr2(i j:Nat){o p:Oper}(ho:ops[i]?=some o)(hp:ops[j]?=some p)(h:Op1 P ops Q md S fuel listed a w i o)(h2:Op1 P ops Q md S fuel listed a w j p)(hr:Region.ready md ops listed=[i,j]:=by decide+kernel):wpAnyH P md ops Q S (fuel+1) listed a w:=
 wpAnyH_ready hr (by simp) (.cons ho h (.cons hp h2 .nil))
theorem wr3(i j k:Nat){o p q:Oper}(ho:ops[i]?=some o)(hp:ops[j]?=some p)(hq:ops[k]?=some q)(h:Op1 P ops Q md S fuel listed a w i o)(h2:Op1 P ops Q md S fuel listed a w j p)(h3:Op1 P ops Q md S fuel listed a w k q)(hr:Region.ready md ops listed=[i,j,k]:=by decide+kernel):wpAnyH P md ops Q S (fuel+1) listed a w:=
 wpAnyH_ready hr (by simp) (.cons ho h (.cons hp h2 (.cons hq h3 .nil)))
end
def NotDig:Value→Prop | .int .u32 _=>False | _=>True
def Box (w:World) (B:Nat) (cs:Array Value):Prop:=∃t,w.heap[B]?=some (.cells cs t (0,0))∧∀(k:Nat) (v:Value),cs[k]?=some v→NotDig v
theorem Box.below{w w':World}{B:Nat}{cs:Array Value}(h:Box w B cs)(hb:Bw w w'):Box w' B cs:=by
 obtain⟨t,h0,h1⟩:=h;exact⟨t,by rw[hb.block _ (Array.getElem?_eq_some_iff.1 h0).1];exact h0,h1⟩
theorem Box.lt{w:World}{B:Nat}{cs:Array Value}(h:Box w B cs):B < w.heap.size:=by
 obtain⟨_,h0,_⟩:=h;exact(Array.getElem?_eq_some_iff.1 h0).1
theorem Box.drew{w:World}{B:Nat}{cs:Array Value}(h:Box w B cs):Box w.drew B cs:=h
theorem Box.alloc(w:World)(cs:Array Value)(t:Nat)(h:∀(k:Nat) (v:Value),cs[k]?=some v→NotDig v):Box (w.alloc (.cells cs t)) w.heap.size cs:=⟨t,heap_alloc_new w _,h⟩
theorem Box.cell{w:World}{B:Nat}{cs:Array Value}(h:Box w B cs)(k:Nat):w.cell? ⟨B,k,none⟩=cs[k]?:=by
 obtain⟨t,h0,_⟩:=h;simp [World.cell?,h0]
theorem Box.free{w:World}{B:Nat}{cs:Array Value}(h:Box w B cs)(k:Nat):w.frozen? ⟨B,k,none⟩=false:=by
 obtain⟨t,h0,_⟩:=h;simp [World.frozen?,h0]
theorem Box.set{w:World}{B:Nat}{cs:Array Value}(h:Box w B cs)(k:Nat)(v:Value)(hv:NotDig v):Box (w.setCell ⟨B,k,none⟩ v) B (cs.setIfInBounds k v):=by
 obtain⟨t,h0,h1⟩:=h;refine⟨t,heap_setCell_same w B k _ t v h0,fun j u hj=>?_⟩;rw[Array.getElem?_setIfInBounds] at hj
 split at hj
 ·split at hj
  ·simp only[Option.some.injEq] at hj;subst hj;exact hv
  ·exact absurd hj (by simp)
 ·exact h1 j u hj
theorem Box.other{w:World}{B C:Nat}{cs:Array Value}(h:Box w B cs)(hne:B≠C)(k:Nat)(v:Value):Box (w.setCell ⟨C,k,none⟩ v) B cs:=by
 obtain⟨t,h0,h1⟩:=h;refine⟨t,?_,h1⟩;rw[Below.heap_setCell _ _ _ _ hne];exact h0
theorem Rep.box{D:Nat}{w:World}{B:Nat}{cs:Array Value}{v:Value}{n:Nat}(h:Rep D w v n)(hB:Box w B cs)(j:Nat)(u:Value):Rep D (w.setCell ⟨B,j,none⟩ u) v n:=by
 obtain⟨p,k,cap,hv,hk,hl,hs⟩:=h;refine⟨p,k,cap,hv,hk,hl,fun h0=>?_⟩;obtain⟨bb,off,hp,hc⟩:=hs h0;obtain⟨t,h1,hd⟩:=hB
 have hne:bb≠B:=by
  rintro rfl;have hc0:=hc 0 h0;rw[Nat.add_zero] at hc0;simp only[World.cell?,h1] at hc0;exact hd _ _ (by simpa using hc0)
 refine⟨bb,off,hp,fun i hi=>?_⟩;rw[World.cell?_of_block (w:=w) (a:=⟨bb,off+i,none⟩)]
 ·exact hc i hi
 ·show(w.setCell ⟨B,j,none⟩ u).heap[bb]?=_;rw[Below.heap_setCell _ _ _ _ hne]
theorem Var3.box{w:World}{B:Nat}{x y z:Value}(h:Var3 w B x y z):Box w B #[x,y,z]:=by
 obtain⟨t,h0,hx,hy,hz⟩:=h
 have key:∀v,NotInt v→NotDig v:=by
  intro v hv
  cases v<;>first | exact trivial | exact absurd hv (by simp [NotInt])
 refine⟨t,h0,fun k v hk=>?_⟩
 rcases k with _ | _ | _ | k
 ·simp at hk;subst hk;exact key _ hx
 ·simp at hk;subst hk;exact key _ hy
 ·simp at hk;subst hk;exact key _ hz
 ·simp at hk
theorem FRep.box{w:World}{B:Nat}{cs:Array Value}{v:Value}{s:Bool}{n d:Nat}(h:FRep w v s n d)(hB:Box w B cs)(j:Nat)(u:Value):FRep (w.setCell ⟨B,j,none⟩ u) v s n d:=by
 obtain⟨vn,vd,hv,h1,h2⟩:=h;exact⟨vn,vd,hv,h1.box hB j u,h2.box hB j u⟩
def NDs:List Value→Prop | []=>True | v::l=>NotDig v∧NDs l
theorem nd1{a0:Value}(h0:NotDig a0:=by exact trivial):NDs [a0]:=⟨h0,trivial⟩
theorem nd3{a0 a1 a2:Value}(h0:NotDig a0:=by exact trivial)(h1:NotDig a1:=by exact trivial)(h2:NotDig a2:=by exact trivial):NDs [a0,a1,a2]:=⟨h0,h1,h2,trivial⟩
theorem nd4{a0 a1 a2 a3:Value}(h0:NotDig a0:=by exact trivial)(h1:NotDig a1:=by exact trivial)(h2:NotDig a2:=by exact trivial)(h3:NotDig a3:=by exact trivial):NDs [a0,a1,a2,a3]:=⟨h0,h1,h2,h3,trivial⟩
theorem nd8{a0 a1 a2 a3 a4 a5 a6 a7:Value}(h0:NotDig a0:=by exact trivial)(h1:NotDig a1:=by exact trivial)(h2:NotDig a2:=by exact trivial)(h3:NotDig a3:=by exact trivial)(h4:NotDig a4:=by exact trivial)(h5:NotDig a5:=by exact trivial)(h6:NotDig a6:=by exact trivial)(h7:NotDig a7:=by exact trivial):NDs [a0,a1,a2,a3,a4,a5,a6,a7]:=⟨h0,h1,h2,h3,h4,h5,h6,h7,trivial⟩
theorem nd9{a0 a1 a2 a3 a4 a5 a6 a7 a8:Value}(h0:NotDig a0:=by exact trivial)(h1:NotDig a1:=by exact trivial)(h2:NotDig a2:=by exact trivial)(h3:NotDig a3:=by exact trivial)(h4:NotDig a4:=by exact trivial)(h5:NotDig a5:=by exact trivial)(h6:NotDig a6:=by exact trivial)(h7:NotDig a7:=by exact trivial)(h8:NotDig a8:=by exact trivial):NDs [a0,a1,a2,a3,a4,a5,a6,a7,a8]:=⟨h0,h1,h2,h3,h4,h5,h6,h7,h8,trivial⟩
theorem NDs.get{l:List Value}(h:NDs l):∀(k:Nat) (v:Value),l.toArray[k]?=some v→NotDig v:=by
 induction l with
 | nil=>intro k v hk;simp at hk
 | cons x l ih=>
  intro k v hk
  rcases k with _ | k
  ·simp at hk;subst hk;exact h.1
  ·exact ih h.2 k v (by simpa using hk)
theorem Box.mk'(w:World)(l:List Value)(t:Nat)(h:NDs l):Box (w.alloc (.cells l.toArray t)) w.heap.size l.toArray:=Box.alloc w _ t h.get
def stores (w:World) (B:Nat):Nat→List Value→World
 | _,[]=>w
 | k,v::l=>stores (w.setCell ⟨B,k,none⟩ v) B (k+1) l
theorem Box.stores_at{l:List Value}:∀{w:World} {B k:Nat} {m:List Value},Box w B m.toArray→NDs l→Box (stores w B k l) B ((m.take k ++ (l.take (m.length - k)) ++ m.drop (k+l.length))).toArray:=by
 induction l with
 | nil=>intro w B k m h _;simpa[stores] using h
 | cons x l ih=>
  intro w B k m h hn;have h1:=h.set k x hn.1
  have e:m.toArray.setIfInBounds k x=(m.set k x).toArray:=by simp
  rw[e] at h1;have h2:=ih (k:=k+1) h1 hn.2
  have key:((m.set k x).take (k+1) ++ l.take ((m.set k x).length - (k+1)) ++ (m.set k x).drop (k+1+l.length))=m.take k ++ ((x::l).take (m.length - k)) ++ m.drop (k+(x::l).length):=by
   rcases Nat.lt_or_ge k m.length with hk | hk
   ·have e1:(m.set k x).take (k+1)=m.take k ++ [x]:=by
     rw[List.take_succ_eq_append_getElem (by simpa using hk)];simp [List.take_set_of_le]
    have e2:m.length - k=(m.length - (k+1))+1:=by omega
    have e3:(m.set k x).drop (k+1+l.length)=m.drop (k+1+l.length):=by
     rw[List.drop_set_of_lt (by omega)]
    rw[e1,e3,List.length_set,e2,List.take_succ_cons,List.length_cons,show k+(l.length+1)=k+1+l.length by omega];simp
   ·rw[List.set_eq_of_length_le hk];rw[List.take_of_length_le (by omega),List.take_of_length_le (l:=m) (by omega),List.drop_of_length_le (by omega),List.drop_of_length_le (by simp;omega),show m.length - (k+1)=0 by omega,show m.length - k=0 by omega];simp
  rw[key] at h2;exact h2
theorem Box.stores{w:World}{B:Nat}{cs:Array Value}(h:Box w B cs)(l:List Value)(hl:l.length=cs.size)(hn:NDs l):Box (stores w B 0 l) B l.toArray:=by
 obtain⟨m⟩:=cs;have h2:=Box.stores_at (k:=0) h hn
 have hl':l.length=m.length:=by simpa using hl
 have key:(m.take 0 ++ l.take (m.length - 0) ++ m.drop (0+l.length))=l:=by
  simp [←hl']
 rw[key] at h2;exact h2
theorem Box.stores_other{l:List Value}:∀{w:World} {B C k:Nat} {cs:Array Value},Box w B cs→B≠C→Box (Go.Proofs.YteblinkehldghaaGreatDoor.stores w C k l) B cs:=by
 induction l with
 | nil=>intro w B C k cs h _;exact h
 | cons x l ih=>intro w B C k cs h hne;exact ih (h.other hne k x) hne
theorem Rep.stores{D:Nat}{l:List Value}:∀{w:World} {B k:Nat} {cs:Array Value} {v:Value} {n:Nat},Rep D w v n→Box w B cs→NDs l→Rep D (Go.Proofs.YteblinkehldghaaGreatDoor.stores w B k l) v n:=by
 induction l with
 | nil=>intro w B k cs v n h _ _;exact h
 | cons x l ih=>intro w B k cs v n h hB hn;exact ih (h.box hB k x) (hB.set k x hn.1) hn.2
theorem FRep.stores{l:List Value}{w:World}{B k:Nat}{cs:Array Value}{v:Value}{s:Bool}{n d:Nat}(h:FRep w v s n d)(hB:Box w B cs)(hn:NDs l):FRep (Go.Proofs.YteblinkehldghaaGreatDoor.stores w B k l) v s n d:=by
 obtain⟨vn,vd,hv,h1,h2⟩:=h;exact⟨vn,vd,hv,Rep.stores h1 hB hn,Rep.stores h2 hB hn⟩
theorem Below.stores{l:List Value}{N:Nat}{W:World}:∀{w:World} {B k:Nat},Below N W w→N≤B→Below N W (Go.Proofs.YteblinkehldghaaGreatDoor.stores w B k l):=by
 induction l with
 | nil=>intro w B k h _;exact h
 | cons x l ih=>intro w B k h hN;exact ih (h.setCell hN x) hN
theorem Box.cells1{w:World}{B:Nat}{a0:Value}(h:Box w B #[a0]):w.cell? ⟨B,0,none⟩=some a0∧w.frozen? ⟨B,0,none⟩=false:=
 ⟨h.cell 0,h.free 0⟩
theorem Box.cells3{w:World}{B:Nat}{a0 a1 a2:Value}(h:Box w B #[a0,a1,a2]):w.cell? ⟨B,0,none⟩=some a0∧w.cell? ⟨B,1,none⟩=some a1∧w.cell? ⟨B,2,none⟩=some a2∧w.frozen? ⟨B,0,none⟩=false∧w.frozen? ⟨B,1,none⟩=false∧w.frozen? ⟨B,2,none⟩=false:=
 ⟨h.cell 0,h.cell 1,h.cell 2,h.free 0,h.free 1,h.free 2⟩
theorem Box.cells4{w:World}{B:Nat}{a0 a1 a2 a3:Value}(h:Box w B #[a0,a1,a2,a3]):w.cell? ⟨B,0,none⟩=some a0∧w.cell? ⟨B,1,none⟩=some a1∧w.cell? ⟨B,2,none⟩=some a2∧w.cell? ⟨B,3,none⟩=some a3∧w.frozen? ⟨B,0,none⟩=false∧w.frozen? ⟨B,1,none⟩=false∧w.frozen? ⟨B,2,none⟩=false∧w.frozen? ⟨B,3,none⟩=false:=
 ⟨h.cell 0,h.cell 1,h.cell 2,h.cell 3,h.free 0,h.free 1,h.free 2,h.free 3⟩
theorem Box.cells8{w:World}{B:Nat}{a0 a1 a2 a3 a4 a5 a6 a7:Value}(h:Box w B #[a0,a1,a2,a3,a4,a5,a6,a7]):w.cell? ⟨B,0,none⟩=some a0∧w.cell? ⟨B,1,none⟩=some a1∧w.cell? ⟨B,2,none⟩=some a2∧w.cell? ⟨B,3,none⟩=some a3∧w.cell? ⟨B,4,none⟩=some a4∧w.cell? ⟨B,5,none⟩=some a5∧w.cell? ⟨B,6,none⟩=some a6∧w.cell? ⟨B,7,none⟩=some a7∧w.frozen? ⟨B,0,none⟩=false∧w.frozen? ⟨B,1,none⟩=false∧w.frozen? ⟨B,2,none⟩=false∧w.frozen? ⟨B,3,none⟩=false∧w.frozen? ⟨B,4,none⟩=false∧w.frozen? ⟨B,5,none⟩=false∧w.frozen? ⟨B,6,none⟩=false∧w.frozen? ⟨B,7,none⟩=false:=
 ⟨h.cell 0,h.cell 1,h.cell 2,h.cell 3,h.cell 4,h.cell 5,h.cell 6,h.cell 7,h.free 0,h.free 1,h.free 2,h.free 3,h.free 4,h.free 5,h.free 6,h.free 7⟩
theorem Box.cells9{w:World}{B:Nat}{a0 a1 a2 a3 a4 a5 a6 a7 a8:Value}(h:Box w B #[a0,a1,a2,a3,a4,a5,a6,a7,a8]):w.cell? ⟨B,0,none⟩=some a0∧w.cell? ⟨B,1,none⟩=some a1∧w.cell? ⟨B,2,none⟩=some a2∧w.cell? ⟨B,3,none⟩=some a3∧w.cell? ⟨B,4,none⟩=some a4∧w.cell? ⟨B,5,none⟩=some a5∧w.cell? ⟨B,6,none⟩=some a6∧w.cell? ⟨B,7,none⟩=some a7∧w.cell? ⟨B,8,none⟩=some a8∧w.frozen? ⟨B,0,none⟩=false∧w.frozen? ⟨B,1,none⟩=false∧w.frozen? ⟨B,2,none⟩=false∧w.frozen? ⟨B,3,none⟩=false∧w.frozen? ⟨B,4,none⟩=false∧w.frozen? ⟨B,5,none⟩=false∧w.frozen? ⟨B,6,none⟩=false∧w.frozen? ⟨B,7,none⟩=false∧w.frozen? ⟨B,8,none⟩=false:=
 ⟨h.cell 0,h.cell 1,h.cell 2,h.cell 3,h.cell 4,h.cell 5,h.cell 6,h.cell 7,h.cell 8,h.free 0,h.free 1,h.free 2,h.free 3,h.free 4,h.free 5,h.free 6,h.free 7,h.free 8⟩
theorem Box.mk1(w:World)(o:Obj)(l:List Value)(t:Nat)(h:NDs l):Box ((w.alloc o).alloc (.cells l.toArray t)) (w.heap.size+1) l.toArray:=by
 have:=Box.mk' (w.alloc o) l t h
 rwa [World.size_alloc] at this
theorem Box.mk2(w:World)(o o':Obj)(l:List Value)(t:Nat)(h:NDs l):Box (((w.alloc o).alloc o').alloc (.cells l.toArray t)) (w.heap.size+1+1) l.toArray:=by
 have:=Box.mk1 (w.alloc o) o' l t h
 rwa [World.size_alloc] at this
theorem Box.mk3(w:World)(o o' o'':Obj)(l:List Value)(t:Nat)(h:NDs l):Box ((((w.alloc o).alloc o').alloc o'').alloc (.cells l.toArray t)) (w.heap.size+1+1+1) l.toArray:=by
 have:=Box.mk2 (w.alloc o) o' o'' l t h
 rwa [World.size_alloc] at this
theorem Box.more{w:World}{B:Nat}{cs:Array Value}(h:Box w B cs)(o:Obj):Box (w.alloc o) B cs:=h.below ((Below.refl _ _).alloc (Nat.le_refl _) o)
theorem pre1(w:World)(l1:List Value)(t1:Nat)(h1:NDs l1):
  Box (w.alloc (.cells l1.toArray t1)) w.heap.size l1.toArray∧Bw w (w.alloc (.cells l1.toArray t1)):=
 ⟨Box.mk' w l1 t1 h1,(Below.refl _ _).alloc (Nat.le_refl _) _⟩
theorem pre2(w:World)(l1 l2:List Value)(t1 t2:Nat)(h1:NDs l1)(h2:NDs l2):
  Box ((w.alloc (.cells l1.toArray t1)).alloc (.cells l2.toArray t2)) w.heap.size l1.toArray∧Box ((w.alloc (.cells l1.toArray t1)).alloc (.cells l2.toArray t2)) (w.heap.size+1) l2.toArray∧Bw w ((w.alloc (.cells l1.toArray t1)).alloc (.cells l2.toArray t2)):=
 ⟨(Box.mk' w l1 t1 h1).more _,Box.mk1 w _ l2 t2 h2,below_alloc2 _ _ _⟩
theorem pre3(w:World)(l1 l2 l3:List Value)(t1 t2 t3:Nat)(h1:NDs l1)(h2:NDs l2)(h3:NDs l3):
  Box (((w.alloc (.cells l1.toArray t1)).alloc (.cells l2.toArray t2)).alloc (.cells l3.toArray t3)) w.heap.size l1.toArray∧Box (((w.alloc (.cells l1.toArray t1)).alloc (.cells l2.toArray t2)).alloc (.cells l3.toArray t3)) (w.heap.size+1) l2.toArray∧Box (((w.alloc (.cells l1.toArray t1)).alloc (.cells l2.toArray t2)).alloc (.cells l3.toArray t3)) (w.heap.size+1+1) l3.toArray∧Bw w (((w.alloc (.cells l1.toArray t1)).alloc (.cells l2.toArray t2)).alloc (.cells l3.toArray t3)):=
 ⟨((Box.mk' w l1 t1 h1).more _).more _,(Box.mk1 w _ l2 t2 h2).more _,Box.mk2 w _ _ l3 t3 h3,below_alloc3 _ _ _ _⟩
theorem FNorm.stores{l:List Value}{w:World}{B k:Nat}{cs:Array Value}{v:Value}{t:Tq}(h:FNorm w v t)(hB:Box w B cs)(hn:NDs l):FNorm (Go.Proofs.YteblinkehldghaaGreatDoor.stores w B k l) v t:=FRep.stores h hB hn
def QQ (w:World) (l:List (Nat×List Value)) (w':World):Prop:=(∀p,p ∈ l→Box w' p.1 p.2.toArray)∧Bw w w'
def Apart (l:List (Nat×List Value)) (C:Nat):Prop:=∀p,p ∈ l→p.1≠C
theorem QQ.call{w w1 w2:World}{l:List (Nat×List Value)}(h:QQ w l w1)(hb:Bw w1 w2):QQ w l w2:=
 ⟨fun p hp=>(h.1 p hp).below hb,h.2.trans (hb.mono h.2.size)⟩
theorem QQ.bel{w w1:World}{l:List (Nat×List Value)}(h:QQ w l w1):Bw w w1:=h.2
theorem QQ.drew{w w1:World}{l:List (Nat×List Value)}(h:QQ w l w1):QQ w l w1.drew:=h.call (Below.refl _ _).drew
theorem QQ.alloc{w w1:World}{l:List (Nat×List Value)}(h:QQ w l w1)(o:Obj):QQ w l (w1.alloc o):=h.call ((Below.refl _ _).alloc (Nat.le_refl _) o)
theorem QQ.stores{w w1:World}{l:List (Nat×List Value)}{B k:Nat}{vs:List Value}(h:QQ w l w1)(hne:Apart l B)(hB:w.heap.size≤B):QQ w l (Go.Proofs.YteblinkehldghaaGreatDoor.stores w1 B k vs):=
 ⟨fun p hp=>(h.1 p hp).stores_other (hne p hp),Below.stores h.2 hB⟩
theorem QQ.st3{w w1:World}{l:List (Nat×List Value)}{B:Nat}{a b c:Value}(h:QQ w l w1)(hne:Apart l B)(hB:w.heap.size≤B):QQ w l (((w1.setCell ⟨B,0,none⟩ a).setCell ⟨B,1,none⟩ b).setCell ⟨B,2,none⟩ c):=QQ.stores (k:=0) (vs:=[a,b,c]) h hne hB
theorem QQ.st4{w w1:World}{l:List (Nat×List Value)}{B:Nat}{a b c d:Value}(h:QQ w l w1)(hne:Apart l B)(hB:w.heap.size≤B):QQ w l ((((w1.setCell ⟨B,0,none⟩ a).setCell ⟨B,1,none⟩ b).setCell ⟨B,2,none⟩ c).setCell ⟨B,3,none⟩ d):=QQ.stores (k:=0) (vs:=[a,b,c,d]) h hne hB
theorem QQ.st8{w w1:World}{l:List (Nat×List Value)}{B:Nat}{a b c d e f g i:Value}(h:QQ w l w1)(hne:Apart l B)(hB:w.heap.size≤B):QQ w l ((((((((w1.setCell ⟨B,0,none⟩ a).setCell ⟨B,1,none⟩ b).setCell ⟨B,2,none⟩ c).setCell ⟨B,3,none⟩ d).setCell ⟨B,4,none⟩ e).setCell ⟨B,5,none⟩ f).setCell ⟨B,6,none⟩ g).setCell ⟨B,7,none⟩ i):=QQ.stores (k:=0) (vs:=[a,b,c,d,e,f,g,i]) h hne hB
theorem QQ.st9{w w1:World}{l:List (Nat×List Value)}{B:Nat}{a b c d e f g i j:Value}(h:QQ w l w1)(hne:Apart l B)(hB:w.heap.size≤B):QQ w l (((((((((w1.setCell ⟨B,0,none⟩ a).setCell ⟨B,1,none⟩ b).setCell ⟨B,2,none⟩ c).setCell ⟨B,3,none⟩ d).setCell ⟨B,4,none⟩ e).setCell ⟨B,5,none⟩ f).setCell ⟨B,6,none⟩ g).setCell ⟨B,7,none⟩ i).setCell ⟨B,8,none⟩ j):=QQ.stores (k:=0) (vs:=[a,b,c,d,e,f,g,i,j]) h hne hB
theorem QQ.b1{w w1:World}{B:Nat}{cs:List Value}{l:List (Nat×List Value)}(h:QQ w ((B,cs)::l) w1):Box w1 B cs.toArray:=h.1 _ List.mem_cons_self
theorem QQ.b2{w w1:World}{p:Nat×List Value}{B:Nat}{cs:List Value}{l:List (Nat×List Value)}(h:QQ w (p::(B,cs)::l) w1):Box w1 B cs.toArray:=h.1 _ (List.mem_cons_of_mem _ List.mem_cons_self)
theorem QQ.b3{w w1:World}{p q:Nat×List Value}{B:Nat}{cs:List Value}{l:List (Nat×List Value)}(h:QQ w (p::q::(B,cs)::l) w1):Box w1 B cs.toArray:=h.1 _ (List.mem_cons_of_mem _ (List.mem_cons_of_mem _ List.mem_cons_self))
theorem QQ.b4{w w1:World}{p q r:Nat×List Value}{B:Nat}{cs:List Value}{l:List (Nat×List Value)}(h:QQ w (p::q::r::(B,cs)::l) w1):Box w1 B cs.toArray:=h.1 _ (List.mem_cons_of_mem _ (List.mem_cons_of_mem _ (List.mem_cons_of_mem _ List.mem_cons_self)))
theorem QQ.i1{w w1:World}{B:Nat}{cs:List Value}(h:Box w1 B cs.toArray)(hb:Bw w w1):QQ w [(B,cs)] w1:=by
 refine⟨fun p hp=>?_,hb⟩;obtain rfl:=List.mem_singleton.1 hp;exact h
theorem QQ.i2{w w1:World}{B B':Nat}{cs cs':List Value}(h:Box w1 B cs.toArray)(h':Box w1 B' cs'.toArray)(hb:Bw w w1):QQ w [(B,cs),(B',cs')] w1:=by
 refine⟨fun p hp=>?_,hb⟩
 rcases List.mem_cons.1 hp with rfl | hp
 ·exact h
 ·obtain rfl:=List.mem_singleton.1 hp;exact h'
theorem ne1{B C:Nat}{cs:List Value}(h:B≠C):Apart [(B,cs)] C:=by
 intro p hp;obtain rfl:=List.mem_singleton.1 hp;exact h
theorem ne2{B B' C:Nat}{cs cs':List Value}(h:B≠C)(h':B'≠C):Apart [(B,cs),(B',cs')] C:=by
 intro p hp
 rcases List.mem_cons.1 hp with rfl | hp
 ·exact h
 ·obtain rfl:=List.mem_singleton.1 hp;exact h'
theorem QQ.s_3_3{w w':World}{B0 B1:Nat}{a0_0 a0_1 a0_2 a1_0 a1_1 a1_2:Value}(h:QQ w [(B0,[a0_0,a0_1,a0_2]),(B1,[a1_0,a1_1,a1_2])] w'):w'.cell? ⟨B0,0,none⟩=some a0_0∧w'.cell? ⟨B0,1,none⟩=some a0_1∧w'.cell? ⟨B0,2,none⟩=some a0_2∧w'.cell? ⟨B1,0,none⟩=some a1_0∧w'.cell? ⟨B1,1,none⟩=some a1_1∧w'.cell? ⟨B1,2,none⟩=some a1_2∧Hid (QQ w [(B0,[a0_0,a0_1,a0_2]),(B1,[a1_0,a1_1,a1_2])] w'):=⟨h.b1.cells3.1,h.b1.cells3.2.1,h.b1.cells3.2.2.1,h.b2.cells3.1,h.b2.cells3.2.1,h.b2.cells3.2.2.1,hid h⟩
theorem QQ.s_4{w w':World}{B0:Nat}{a0_0 a0_1 a0_2 a0_3:Value}(h:QQ w [(B0,[a0_0,a0_1,a0_2,a0_3])] w'):w'.cell? ⟨B0,0,none⟩=some a0_0∧w'.cell? ⟨B0,1,none⟩=some a0_1∧w'.cell? ⟨B0,2,none⟩=some a0_2∧w'.cell? ⟨B0,3,none⟩=some a0_3∧Hid (QQ w [(B0,[a0_0,a0_1,a0_2,a0_3])] w'):=⟨h.b1.cells4.1,h.b1.cells4.2.1,h.b1.cells4.2.2.1,h.b1.cells4.2.2.2.1,hid h⟩
theorem QQ.s_4_4{w w':World}{B0 B1:Nat}{a0_0 a0_1 a0_2 a0_3 a1_0 a1_1 a1_2 a1_3:Value}(h:QQ w [(B0,[a0_0,a0_1,a0_2,a0_3]),(B1,[a1_0,a1_1,a1_2,a1_3])] w'):w'.cell? ⟨B0,0,none⟩=some a0_0∧w'.cell? ⟨B0,1,none⟩=some a0_1∧w'.cell? ⟨B0,2,none⟩=some a0_2∧w'.cell? ⟨B0,3,none⟩=some a0_3∧w'.cell? ⟨B1,0,none⟩=some a1_0∧w'.cell? ⟨B1,1,none⟩=some a1_1∧w'.cell? ⟨B1,2,none⟩=some a1_2∧w'.cell? ⟨B1,3,none⟩=some a1_3∧Hid (QQ w [(B0,[a0_0,a0_1,a0_2,a0_3]),(B1,[a1_0,a1_1,a1_2,a1_3])] w'):=⟨h.b1.cells4.1,h.b1.cells4.2.1,h.b1.cells4.2.2.1,h.b1.cells4.2.2.2.1,h.b2.cells4.1,h.b2.cells4.2.1,h.b2.cells4.2.2.1,h.b2.cells4.2.2.2.1,hid h⟩
theorem QQ.s_4_4_4_4{w w':World}{B0 B1 B2 B3:Nat}{a0_0 a0_1 a0_2 a0_3 a1_0 a1_1 a1_2 a1_3 a2_0 a2_1 a2_2 a2_3 a3_0 a3_1 a3_2 a3_3:Value}(h:QQ w [(B0,[a0_0,a0_1,a0_2,a0_3]),(B1,[a1_0,a1_1,a1_2,a1_3]),(B2,[a2_0,a2_1,a2_2,a2_3]),(B3,[a3_0,a3_1,a3_2,a3_3])] w'):w'.cell? ⟨B0,0,none⟩=some a0_0∧w'.cell? ⟨B0,1,none⟩=some a0_1∧w'.cell? ⟨B0,2,none⟩=some a0_2∧w'.cell? ⟨B0,3,none⟩=some a0_3∧w'.cell? ⟨B1,0,none⟩=some a1_0∧w'.cell? ⟨B1,1,none⟩=some a1_1∧w'.cell? ⟨B1,2,none⟩=some a1_2∧w'.cell? ⟨B1,3,none⟩=some a1_3∧w'.cell? ⟨B2,0,none⟩=some a2_0∧w'.cell? ⟨B2,1,none⟩=some a2_1∧w'.cell? ⟨B2,2,none⟩=some a2_2∧w'.cell? ⟨B2,3,none⟩=some a2_3∧w'.cell? ⟨B3,0,none⟩=some a3_0∧w'.cell? ⟨B3,1,none⟩=some a3_1∧w'.cell? ⟨B3,2,none⟩=some a3_2∧w'.cell? ⟨B3,3,none⟩=some a3_3∧Hid (QQ w [(B0,[a0_0,a0_1,a0_2,a0_3]),(B1,[a1_0,a1_1,a1_2,a1_3]),(B2,[a2_0,a2_1,a2_2,a2_3]),(B3,[a3_0,a3_1,a3_2,a3_3])] w'):=⟨h.b1.cells4.1,h.b1.cells4.2.1,h.b1.cells4.2.2.1,h.b1.cells4.2.2.2.1,h.b2.cells4.1,h.b2.cells4.2.1,h.b2.cells4.2.2.1,h.b2.cells4.2.2.2.1,h.b3.cells4.1,h.b3.cells4.2.1,h.b3.cells4.2.2.1,h.b3.cells4.2.2.2.1,h.b4.cells4.1,h.b4.cells4.2.1,h.b4.cells4.2.2.1,h.b4.cells4.2.2.2.1,hid h⟩
theorem QQ.s_4_4_9{w w':World}{B0 B1 B2:Nat}{a0_0 a0_1 a0_2 a0_3 a1_0 a1_1 a1_2 a1_3 a2_0 a2_1 a2_2 a2_3 a2_4 a2_5 a2_6 a2_7 a2_8:Value}(h:QQ w [(B0,[a0_0,a0_1,a0_2,a0_3]),(B1,[a1_0,a1_1,a1_2,a1_3]),(B2,[a2_0,a2_1,a2_2,a2_3,a2_4,a2_5,a2_6,a2_7,a2_8])] w'):w'.cell? ⟨B0,0,none⟩=some a0_0∧w'.cell? ⟨B0,1,none⟩=some a0_1∧w'.cell? ⟨B0,2,none⟩=some a0_2∧w'.cell? ⟨B0,3,none⟩=some a0_3∧w'.cell? ⟨B1,0,none⟩=some a1_0∧w'.cell? ⟨B1,1,none⟩=some a1_1∧w'.cell? ⟨B1,2,none⟩=some a1_2∧w'.cell? ⟨B1,3,none⟩=some a1_3∧w'.cell? ⟨B2,0,none⟩=some a2_0∧w'.cell? ⟨B2,1,none⟩=some a2_1∧w'.cell? ⟨B2,2,none⟩=some a2_2∧w'.cell? ⟨B2,3,none⟩=some a2_3∧w'.cell? ⟨B2,4,none⟩=some a2_4∧w'.cell? ⟨B2,5,none⟩=some a2_5∧w'.cell? ⟨B2,6,none⟩=some a2_6∧w'.cell? ⟨B2,7,none⟩=some a2_7∧w'.cell? ⟨B2,8,none⟩=some a2_8∧Hid (QQ w [(B0,[a0_0,a0_1,a0_2,a0_3]),(B1,[a1_0,a1_1,a1_2,a1_3]),(B2,[a2_0,a2_1,a2_2,a2_3,a2_4,a2_5,a2_6,a2_7,a2_8])] w'):=⟨h.b1.cells4.1,h.b1.cells4.2.1,h.b1.cells4.2.2.1,h.b1.cells4.2.2.2.1,h.b2.cells4.1,h.b2.cells4.2.1,h.b2.cells4.2.2.1,h.b2.cells4.2.2.2.1,h.b3.cells9.1,h.b3.cells9.2.1,h.b3.cells9.2.2.1,h.b3.cells9.2.2.2.1,h.b3.cells9.2.2.2.2.1,h.b3.cells9.2.2.2.2.2.1,h.b3.cells9.2.2.2.2.2.2.1,h.b3.cells9.2.2.2.2.2.2.2.1,h.b3.cells9.2.2.2.2.2.2.2.2.1,hid h⟩
theorem QQ.s_8{w w':World}{B0:Nat}{a0_0 a0_1 a0_2 a0_3 a0_4 a0_5 a0_6 a0_7:Value}(h:QQ w [(B0,[a0_0,a0_1,a0_2,a0_3,a0_4,a0_5,a0_6,a0_7])] w'):w'.cell? ⟨B0,0,none⟩=some a0_0∧w'.cell? ⟨B0,1,none⟩=some a0_1∧w'.cell? ⟨B0,2,none⟩=some a0_2∧w'.cell? ⟨B0,3,none⟩=some a0_3∧w'.cell? ⟨B0,4,none⟩=some a0_4∧w'.cell? ⟨B0,5,none⟩=some a0_5∧w'.cell? ⟨B0,6,none⟩=some a0_6∧w'.cell? ⟨B0,7,none⟩=some a0_7∧Hid (QQ w [(B0,[a0_0,a0_1,a0_2,a0_3,a0_4,a0_5,a0_6,a0_7])] w'):=⟨h.b1.cells8.1,h.b1.cells8.2.1,h.b1.cells8.2.2.1,h.b1.cells8.2.2.2.1,h.b1.cells8.2.2.2.2.1,h.b1.cells8.2.2.2.2.2.1,h.b1.cells8.2.2.2.2.2.2.1,h.b1.cells8.2.2.2.2.2.2.2.1,hid h⟩
theorem QQ.s_8_8{w w':World}{B0 B1:Nat}{a0_0 a0_1 a0_2 a0_3 a0_4 a0_5 a0_6 a0_7 a1_0 a1_1 a1_2 a1_3 a1_4 a1_5 a1_6 a1_7:Value}(h:QQ w [(B0,[a0_0,a0_1,a0_2,a0_3,a0_4,a0_5,a0_6,a0_7]),(B1,[a1_0,a1_1,a1_2,a1_3,a1_4,a1_5,a1_6,a1_7])] w'):w'.cell? ⟨B0,0,none⟩=some a0_0∧w'.cell? ⟨B0,1,none⟩=some a0_1∧w'.cell? ⟨B0,2,none⟩=some a0_2∧w'.cell? ⟨B0,3,none⟩=some a0_3∧w'.cell? ⟨B0,4,none⟩=some a0_4∧w'.cell? ⟨B0,5,none⟩=some a0_5∧w'.cell? ⟨B0,6,none⟩=some a0_6∧w'.cell? ⟨B0,7,none⟩=some a0_7∧w'.cell? ⟨B1,0,none⟩=some a1_0∧w'.cell? ⟨B1,1,none⟩=some a1_1∧w'.cell? ⟨B1,2,none⟩=some a1_2∧w'.cell? ⟨B1,3,none⟩=some a1_3∧w'.cell? ⟨B1,4,none⟩=some a1_4∧w'.cell? ⟨B1,5,none⟩=some a1_5∧w'.cell? ⟨B1,6,none⟩=some a1_6∧w'.cell? ⟨B1,7,none⟩=some a1_7∧Hid (QQ w [(B0,[a0_0,a0_1,a0_2,a0_3,a0_4,a0_5,a0_6,a0_7]),(B1,[a1_0,a1_1,a1_2,a1_3,a1_4,a1_5,a1_6,a1_7])] w'):=⟨h.b1.cells8.1,h.b1.cells8.2.1,h.b1.cells8.2.2.1,h.b1.cells8.2.2.2.1,h.b1.cells8.2.2.2.2.1,h.b1.cells8.2.2.2.2.2.1,h.b1.cells8.2.2.2.2.2.2.1,h.b1.cells8.2.2.2.2.2.2.2.1,h.b2.cells8.1,h.b2.cells8.2.1,h.b2.cells8.2.2.1,h.b2.cells8.2.2.2.1,h.b2.cells8.2.2.2.2.1,h.b2.cells8.2.2.2.2.2.1,h.b2.cells8.2.2.2.2.2.2.1,h.b2.cells8.2.2.2.2.2.2.2.1,hid h⟩
theorem QQ.s_8_8_1{w w':World}{B0 B1 B2:Nat}{a0_0 a0_1 a0_2 a0_3 a0_4 a0_5 a0_6 a0_7 a1_0 a1_1 a1_2 a1_3 a1_4 a1_5 a1_6 a1_7 a2_0:Value}(h:QQ w [(B0,[a0_0,a0_1,a0_2,a0_3,a0_4,a0_5,a0_6,a0_7]),(B1,[a1_0,a1_1,a1_2,a1_3,a1_4,a1_5,a1_6,a1_7]),(B2,[a2_0])] w'):w'.cell? ⟨B0,0,none⟩=some a0_0∧w'.cell? ⟨B0,1,none⟩=some a0_1∧w'.cell? ⟨B0,2,none⟩=some a0_2∧w'.cell? ⟨B0,3,none⟩=some a0_3∧w'.cell? ⟨B0,4,none⟩=some a0_4∧w'.cell? ⟨B0,5,none⟩=some a0_5∧w'.cell? ⟨B0,6,none⟩=some a0_6∧w'.cell? ⟨B0,7,none⟩=some a0_7∧w'.cell? ⟨B1,0,none⟩=some a1_0∧w'.cell? ⟨B1,1,none⟩=some a1_1∧w'.cell? ⟨B1,2,none⟩=some a1_2∧w'.cell? ⟨B1,3,none⟩=some a1_3∧w'.cell? ⟨B1,4,none⟩=some a1_4∧w'.cell? ⟨B1,5,none⟩=some a1_5∧w'.cell? ⟨B1,6,none⟩=some a1_6∧w'.cell? ⟨B1,7,none⟩=some a1_7∧w'.cell? ⟨B2,0,none⟩=some a2_0∧Hid (QQ w [(B0,[a0_0,a0_1,a0_2,a0_3,a0_4,a0_5,a0_6,a0_7]),(B1,[a1_0,a1_1,a1_2,a1_3,a1_4,a1_5,a1_6,a1_7]),(B2,[a2_0])] w'):=⟨h.b1.cells8.1,h.b1.cells8.2.1,h.b1.cells8.2.2.1,h.b1.cells8.2.2.2.1,h.b1.cells8.2.2.2.2.1,h.b1.cells8.2.2.2.2.2.1,h.b1.cells8.2.2.2.2.2.2.1,h.b1.cells8.2.2.2.2.2.2.2.1,h.b2.cells8.1,h.b2.cells8.2.1,h.b2.cells8.2.2.1,h.b2.cells8.2.2.2.1,h.b2.cells8.2.2.2.2.1,h.b2.cells8.2.2.2.2.2.1,h.b2.cells8.2.2.2.2.2.2.1,h.b2.cells8.2.2.2.2.2.2.2.1,h.b3.cells1.1,hid h⟩
theorem QQ.s_9{w w':World}{B0:Nat}{a0_0 a0_1 a0_2 a0_3 a0_4 a0_5 a0_6 a0_7 a0_8:Value}(h:QQ w [(B0,[a0_0,a0_1,a0_2,a0_3,a0_4,a0_5,a0_6,a0_7,a0_8])] w'):w'.cell? ⟨B0,0,none⟩=some a0_0∧w'.cell? ⟨B0,1,none⟩=some a0_1∧w'.cell? ⟨B0,2,none⟩=some a0_2∧w'.cell? ⟨B0,3,none⟩=some a0_3∧w'.cell? ⟨B0,4,none⟩=some a0_4∧w'.cell? ⟨B0,5,none⟩=some a0_5∧w'.cell? ⟨B0,6,none⟩=some a0_6∧w'.cell? ⟨B0,7,none⟩=some a0_7∧w'.cell? ⟨B0,8,none⟩=some a0_8∧Hid (QQ w [(B0,[a0_0,a0_1,a0_2,a0_3,a0_4,a0_5,a0_6,a0_7,a0_8])] w'):=⟨h.b1.cells9.1,h.b1.cells9.2.1,h.b1.cells9.2.2.1,h.b1.cells9.2.2.2.1,h.b1.cells9.2.2.2.2.1,h.b1.cells9.2.2.2.2.2.1,h.b1.cells9.2.2.2.2.2.2.1,h.b1.cells9.2.2.2.2.2.2.2.1,h.b1.cells9.2.2.2.2.2.2.2.2.1,hid h⟩
theorem QQ.s_9_9{w w':World}{B0 B1:Nat}{a0_0 a0_1 a0_2 a0_3 a0_4 a0_5 a0_6 a0_7 a0_8 a1_0 a1_1 a1_2 a1_3 a1_4 a1_5 a1_6 a1_7 a1_8:Value}(h:QQ w [(B0,[a0_0,a0_1,a0_2,a0_3,a0_4,a0_5,a0_6,a0_7,a0_8]),(B1,[a1_0,a1_1,a1_2,a1_3,a1_4,a1_5,a1_6,a1_7,a1_8])] w'):w'.cell? ⟨B0,0,none⟩=some a0_0∧w'.cell? ⟨B0,1,none⟩=some a0_1∧w'.cell? ⟨B0,2,none⟩=some a0_2∧w'.cell? ⟨B0,3,none⟩=some a0_3∧w'.cell? ⟨B0,4,none⟩=some a0_4∧w'.cell? ⟨B0,5,none⟩=some a0_5∧w'.cell? ⟨B0,6,none⟩=some a0_6∧w'.cell? ⟨B0,7,none⟩=some a0_7∧w'.cell? ⟨B0,8,none⟩=some a0_8∧w'.cell? ⟨B1,0,none⟩=some a1_0∧w'.cell? ⟨B1,1,none⟩=some a1_1∧w'.cell? ⟨B1,2,none⟩=some a1_2∧w'.cell? ⟨B1,3,none⟩=some a1_3∧w'.cell? ⟨B1,4,none⟩=some a1_4∧w'.cell? ⟨B1,5,none⟩=some a1_5∧w'.cell? ⟨B1,6,none⟩=some a1_6∧w'.cell? ⟨B1,7,none⟩=some a1_7∧w'.cell? ⟨B1,8,none⟩=some a1_8∧Hid (QQ w [(B0,[a0_0,a0_1,a0_2,a0_3,a0_4,a0_5,a0_6,a0_7,a0_8]),(B1,[a1_0,a1_1,a1_2,a1_3,a1_4,a1_5,a1_6,a1_7,a1_8])] w'):=⟨h.b1.cells9.1,h.b1.cells9.2.1,h.b1.cells9.2.2.1,h.b1.cells9.2.2.2.1,h.b1.cells9.2.2.2.2.1,h.b1.cells9.2.2.2.2.2.1,h.b1.cells9.2.2.2.2.2.2.1,h.b1.cells9.2.2.2.2.2.2.2.1,h.b1.cells9.2.2.2.2.2.2.2.2.1,h.b2.cells9.1,h.b2.cells9.2.1,h.b2.cells9.2.2.1,h.b2.cells9.2.2.2.1,h.b2.cells9.2.2.2.2.1,h.b2.cells9.2.2.2.2.2.1,h.b2.cells9.2.2.2.2.2.2.1,h.b2.cells9.2.2.2.2.2.2.2.1,h.b2.cells9.2.2.2.2.2.2.2.2.1,hid h⟩
theorem pre1_o{w W0:World}{l1:List Value}{t1:Nat}(h:w.alloc (.cells l1.toArray t1)=W0)(h1:NDs l1):
    Box W0 w.heap.size l1.toArray∧Bw w W0:=by
  subst h;exact pre1 w l1 t1 h1
theorem pre2_o{w W0:World}{l1 l2:List Value}{t1 t2:Nat}(h:(w.alloc (.cells l1.toArray t1)).alloc (.cells l2.toArray t2)=W0)(h1:NDs l1)(h2:NDs l2):
    Box W0 w.heap.size l1.toArray∧Box W0 (w.heap.size+1) l2.toArray∧Bw w W0:=by
  subst h;exact pre2 w l1 l2 t1 t2 h1 h2
theorem pre3_o{w W0:World}{l1 l2 l3:List Value}{t1 t2 t3:Nat}(h:((w.alloc (.cells l1.toArray t1)).alloc (.cells l2.toArray t2)).alloc (.cells l3.toArray t3)=W0)(h1:NDs l1)(h2:NDs l2)(h3:NDs l3):
    Box W0 w.heap.size l1.toArray∧Box W0 (w.heap.size+1) l2.toArray∧Box W0 (w.heap.size+1+1) l3.toArray∧Bw w W0:=by
  subst h;exact pre3 w l1 l2 l3 t1 t2 t3 h1 h2 h3
end Go.Proofs.YteblinkehldghaaGreatDoor
