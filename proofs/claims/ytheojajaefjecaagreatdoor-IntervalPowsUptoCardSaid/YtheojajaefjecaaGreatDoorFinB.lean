/- Operations of the program that end by a panic: what recovers them. -/
import Derived.Test.YtheojajaefjecaaGreatDoorIvA
import Derived.Recover
import Derived.Defers
set_option maxHeartbeats 1000000
set_option maxRecDepth 100000
namespace Go.Proofs.YtheojajaefjecaaGreatDoor
open Go.RowKit Dg
theorem assert_errno(c)(W:World):(Instr.typeAssert (.iface 27 (.int .i64 c)) 20 27 true).run Tryz.prog W=.ok (.tuple #[.int .i64 c,.bool true]) W:=by kernel_rfl
theorem makeFunc_run(fn:Fn)(first cap:Array Value)(w:World):(Instr.makeFunc fn first cap).run Tryz.prog w=.ok (.func fn first cap) w:=rfl
theorem catchI_panicking(p:Addr)(x c)(older:List PanicEntry)(w:World)(hc:w.cell? p=some (.int .i64 x))(hz:w.frozen? p=false):
  CallsD Tryz.prog 212 #[.pointer (some p)] (.panicking ({v:=.iface 27 (.int .i64 c),recovered:=false}::older)) w fun e u' w'=>
   e=.returned (.tuple #[])∧u'=.panicking ({v:=.iface 27 (.int .i64 c),recovered:=true}::older)∧w'=w.setCell p (.int .i64 c):=by
 refine callsD_of_wpS Tryz.func212 rfl fun c₀ cs hu=>?_
 apply wpS_seq;apply wpS_region;simp [wpOpsS,go_sem,recoverD,hu,Tryz.ntmps212,Exit.thenS];refine wpS_of_wp ?_;have hta:=assert_errno c;go_wp2_with fail;simp [bodyPostS,results,Tryz.results212]
theorem catchI_idle(p:Addr)(w:World):
  CallsD Tryz.prog 212 #[.pointer (some p)] .returning w fun e u' w'=>e=.returned (.tuple #[])∧u'=.returning∧w'=w:=by
 refine callsD_of_wpS Tryz.func212 rfl fun c₀ cs hu=>?_
 apply wpS_seq;apply wpS_region;simp [wpOpsS,go_sem,recoverD,hu,Tryz.ntmps212,Exit.thenS];refine wpS_of_wp ?_;go_wp2_with fail;cases c₀
 simp_all [bodyPostS,results,Tryz.results212]
end Go.Proofs.YtheojajaefjecaaGreatDoor
