/- The root of a number, in the program. -/
import Derived.Test.YtjnfnngobkjneaaGreatDoorRootG
namespace Go.Proofs.YtjnfnngobkjneaaGreatDoor
open Go.RowKit Dg Rt

/-- A number, a bool and an error are returned. -/
def FRes3 (w : World) (e : Ending) (c : Int) (b : Bool) (t : Bool × Nat × Nat) : Prop :=
  (c ≠ 0 ∧ e = .returned (.tuple #[zeroF, .bool b, .int .i64 c])) ∨
  (c = 0 ∧ ∃ sg pa ka ca pb kb cb, e = .returned (.tuple #[.agg #[.bool sg, .slice pa ka ca, .slice pb kb cb], .bool b, .int .i64 0]) ∧ Hid (FNorm w (.agg #[.bool sg, .slice pa ka ca, .slice pb kb cb]) t))
/-- Whether Root finds a root. -/
noncomputable def rfound (n d : Nat) (t : Bool × Nat × Nat) (p : Int) : Bool := if large n d then false else (decide (rtc p = 0) && rootOk t p.natAbs)
theorem Box.new (w : World) (t : Nat) (b : Bool) : Box (w.alloc (.cells #[.bool b] t)) w.heap.size b := ⟨t, heap_alloc_new w _⟩
theorem Box.upon {w w' : World} {F B : Nat} {b : Bool} (h : Box w F b) (hB : B < F) (hu : UponF B w w') : Box w' F b := by
  obtain ⟨t, h0⟩ := h
  exact ⟨t, by rw [hu.2 _ hB (Array.getElem?_eq_some_iff.1 h0).1]; exact h0⟩
theorem UponF.drew0 (F : Nat) (W : World) : UponF F W W.drew := ⟨(Below.refl _ _).drew, fun _ _ _ => rfl⟩
theorem UponF.set3 {F : Nat} {W w' : World} (h : UponF F W w') (x y z : Value) : UponF F W (((w'.setCell ⟨F, 0, none⟩ x).setCell ⟨F, 1, none⟩ y).setCell ⟨F, 2, none⟩ z) :=
  ⟨((h.1.setCell (Nat.le_refl _) x).setCell (Nat.le_refl _) y).setCell (Nat.le_refl _) z, fun i h1 h2 => (Below.heap_setCell _ _ _ _ (by show i ≠ F; omega)).trans ((Below.heap_setCell _ _ _ _ (by show i ≠ F; omega)).trans ((Below.heap_setCell _ _ _ _ (by show i ≠ F; omega)).trans (h.2 i h1 h2)))⟩
theorem Var3.keepN {w w' : World} {B N : Nat} {x y z : Value} (h : Var3 w B x y z) (hN : B < N) (hb : Below N w w') : Var3 w' B x y z := by
  obtain ⟨t, h0, h1⟩ := h
  exact ⟨t, by rw [hb.block _ hN]; exact h0, h1⟩
theorem rootr_bd {t : Bool × Nat × Nat} {p : Int} (h1 : t.2.1 < W32 ^ 64) (h2 : t.2.2 < W32 ^ 64) (hc : rtc p = 0) : (rootr t p.natAbs).2.1 < W32 ^ 1000000000 ∧ (rootr t p.natAbs).2.2 < W32 ^ 1000000000 := by
  have hr : 0 < p.natAbs := by
    unfold rtc at hc
    split at hc
    · exact absurd hc (by decide)
    · omega
  unfold rootr
  split
  · exact ⟨lt_big (Nat.lt_of_le_of_lt (nroot_le hr) h1) (by omega), lt_big (Nat.lt_of_le_of_lt (nroot_le hr) h2) (by omega)⟩
  · exact ⟨lt_big (a := 1) (by rw [W32_val]; decide) (by omega), lt_big (a := 1) (by rw [W32_val]; decide) (by omega)⟩
end Go.Proofs.YtjnfnngobkjneaaGreatDoor
