/- Operations on an interval: ask. Intervals of the program: Canon, Between, Point, Whole. -/
import Derived.Test.YtimjoejkjgklaaaGreatDoorIvC
import Derived.Test.YtimjoejkjgklaaaGreatDoorFin
import Derived.Test.YtimjoejkjgklaaaGreatDoorSets
namespace Go.Proofs.YtimjoejkjgklaaaGreatDoor
open Go.RowKit Dg
theorem fin_zero {f : FuncId} {args : Array Value} {w : World} {c : Int} (h : Calls Tryz.prog f args w fun e w' => e = .returned (.tuple #[.agg #[.bool false, .slice none 0 0, .slice none 0 0, .bool false, .slice none 0 0, .slice none 0 0, .bool false, .bool false], .int .i64 c]) ∧ Below w.heap.size w w') :
  Calls Tryz.prog f args w fun e w' => ∃ s5 p5 k5 c5 q5 l5 d5 sz5 pz5 kz5 cz5 qz5 lz5 dz5 x5 y5, e = .returned (.tuple #[.agg #[.bool s5, .slice p5 k5 c5, .slice q5 l5 d5, .bool sz5, .slice pz5 kz5 cz5, .slice qz5 lz5 dz5, .bool x5, .bool y5], .int .i64 c]) ∧ Hid (GRep w' (.agg #[.bool s5, .slice p5 k5 c5, .slice q5 l5 d5, .bool sz5, .slice pz5 kz5 cz5, .slice qz5 lz5 dz5, .bool x5, .bool y5]) gzero) ∧ Below w.heap.size w w' := by
 refine h.mono ?_
 rintro e w' ⟨rfl, hB⟩
 exact ⟨_, _, _, _, _, _, _, _, _, _, _, _, _, _, _, _, rfl, hid (GRep.zero w'), hB⟩
end Go.Proofs.YtimjoejkjgklaaaGreatDoor
namespace Go.Proofs.YtimjoejkjgklaaaGreatDoor
open Go.RowKit Dg
theorem w64_not_big {n d : Nat} (hn : n < W32 ^ 64) (hd : d < W32 ^ 64) : big n d = false := by
 unfold big
 rw [decide_eq_false]
 intro h
 omega
theorem ebig_rd {inf : Bool} {g : Int} {t : Bool × Nat × Nat} (hl : large t.2.1 t.2.2 = false) : ebig (rdE inf g t) = false := by
 cases inf
 ·show (decide ((0 : Int) = 0) && big (fr t).2.1 (fr t).2.2) = false
  rw [w64_not_big (fr_bd hl).1 (fr_bd hl).2]; rfl
 ·show (decide (g = 0) && big 0 0) = false
  rw [w64_not_big (Nat.pow_pos W32_pos) (Nat.pow_pos W32_pos), Bool.and_false]
end Go.Proofs.YtimjoejkjgklaaaGreatDoor
