/- Intervals of the program: Canon, Between, Point, Whole. -/
import Derived.Test.YtpdpabpdejmdbaaGreatDoorAskI
namespace Go.Proofs.YtpdpabpdejmdbaaGreatDoor
open Go.RowKit Dg

theorem w64_not_big {n d : Nat} (hn : n < W32 ^ 64) (hd : d < W32 ^ 64) : big n d = false := by
  unfold big
  rw [decide_eq_false]
  intro h
  omega
/-- The error of an operation whose numbers must not be large. -/
def icode (a : (Bool × Nat × Nat) × (Bool × Nat × Nat) × Bool × Bool) : Int := if ilarge a then 1 else 0
/-- What Canon returns. -/
def ican (a : (Bool × Nat × Nat) × (Bool × Nat × Nat) × Bool × Bool) : (Bool × Nat × Nat) × (Bool × Nat × Nat) × Bool × Bool := if ilarge a then gzero else giv (srd a)
theorem ebig_rd {inf : Bool} {g : Int} {t : Bool × Nat × Nat} (hl : large t.2.1 t.2.2 = false) : ebig (rdE inf g t) = false := by
  cases inf
  · show (decide ((0 : Int) = 0) && big (fr t).2.1 (fr t).2.2) = false
    rw [w64_not_big (fr_bd hl).1 (fr_bd hl).2]; rfl
  · show (decide (g = 0) && big 0 0) = false
    rw [w64_not_big (Nat.pow_pos W32_pos) (Nat.pow_pos W32_pos), Bool.and_false]
theorem enter_siv (args : Array Value) (w : World) : (callFunc 83 args).run Tryz.prog w = .ok (.enter 83 args) w := call_enter Tryz.func83 (by kernel_rfl) rfl args w
/-- The interval of a set that was read. -/
theorem siv_rd (i1 : Int) (s1 : Bool) (p1 : Option Addr) (k1 c1 : Nat) (q1 : Option Addr) (l1 d1 : Nat) (j1 : Int) (sz1 : Bool) (pz1 : Option Addr) (kz1 cz1 : Nat) (qz1 : Option Addr) (lz1 dz1 : Nat) (e1 : Bool) (a b : Bool × Nat × Nat) (x y : Bool) (w : World) (h : SRep w (.agg #[.int .i64 i1, .bool s1, .slice p1 k1 c1, .slice q1 l1 d1, .int .i64 j1, .bool sz1, .slice pz1 kz1 cz1, .slice qz1 lz1 dz1, .bool e1]) (srd (a, b, x, y))) (h1 : large a.2.1 a.2.2 = false) (h2 : large b.2.1 b.2.2 = false) :
    Calls Tryz.prog 83 #[.agg #[.int .i64 i1, .bool s1, .slice p1 k1 c1, .slice q1 l1 d1, .int .i64 j1, .bool sz1, .slice pz1 kz1 cz1, .slice qz1 lz1 dz1, .bool e1]] w fun e w' => ∃ s3 p3 k3 c3 q3 l3 d3 sz3 pz3 kz3 cz3 qz3 lz3 dz3 x3 y3, e = .returned (.agg #[.bool s3, .slice p3 k3 c3, .slice q3 l3 d3, .bool sz3, .slice pz3 kz3 cz3, .slice qz3 lz3 dz3, .bool x3, .bool y3]) ∧ Hid (GRep w' (.agg #[.bool s3, .slice p3 k3 c3, .slice q3 l3 d3, .bool sz3, .slice pz3 kz3 cz3, .slice qz3 lz3 dz3, .bool x3, .bool y3]) (giv (srd (a, b, x, y)))) ∧ Below w.heap.size w w' := by
  by_cases he : (srd (a, b, x, y)).2.2 = true
  · exact siv_empty i1 s1 p1 k1 c1 q1 l1 d1 j1 sz1 pz1 kz1 cz1 qz1 lz1 dz1 e1 _ w h he
  · exact siv_ok i1 s1 p1 k1 c1 q1 l1 d1 j1 sz1 pz1 kz1 cz1 qz1 lz1 dz1 e1 _ w h ⟨(rdE_ok (inf := x) (g := -1) (.inr rfl) h1).le (by omega), (rdE_ok (inf := y) (g := 1) (.inl rfl) h2).le (by omega)⟩ ⟨ebig_rd h1, ebig_rd h2⟩ (by simpa using he)
end Go.Proofs.YtpdpabpdejmdbaaGreatDoor
