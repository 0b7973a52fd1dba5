/- What memory holds of a natural number: a slice of digits. No function of the program is named here. -/
import Derived.WalkKit
import Derived.Deep.OwnRows
import Derived.Test.YtdinpeglclkjhaaDoorPure
namespace Go.Proofs.YtdinpeglclkjhaaDoor
open Go.RowKit Dg

/-- The first n cells behind p hold the numbers f 0, f 1, .. -/
def Slc (w : World) (p : Option Addr) (n : Nat) (f : Nat → Nat) : Prop :=
  0 < n → ∃ b off, p = some ⟨b, off, none⟩ ∧ ∀ j, j < n → w.cell? ⟨b, off + j, none⟩ = some (.int .u32 (f j : Nat))

theorem Slc.of_cells {w w' : World} {p : Option Addr} {n : Nat} {f : Nat → Nat} (h : Slc w p n f)
    (hc : ∀ a : Addr, a.block < w.heap.size → w'.cell? a = w.cell? a) : Slc w' p n f := fun h0 => by
  obtain ⟨b, off, hp, hj⟩ := h h0
  exact ⟨b, off, hp, fun j hn => by rw [hc _ (World.block_lt_of_cell? _ _ (hj j hn))]; exact hj j hn⟩

theorem Slc.below {w w' : World} {p : Option Addr} {n : Nat} {f : Nat → Nat} (h : Slc w p n f) (hb : Below w.heap.size w w') : Slc w' p n f :=
  h.of_cells fun _ ha => hb.cell ha

theorem Slc.take {w : World} {p : Option Addr} {n m : Nat} {f : Nat → Nat} (h : Slc w p n f) (hm : m ≤ n) : Slc w p m f := fun h0 => by
  obtain ⟨b, off, hp, hj⟩ := h (by omega)
  exact ⟨b, off, hp, fun j hn => hj j (by omega)⟩

theorem Slc.congr {w : World} {p : Option Addr} {n : Nat} {f g : Nat → Nat} (h : Slc w p n f) (e : ∀ j, j < n → f j = g j) : Slc w p n g := fun h0 => by
  obtain ⟨b, off, hp, hj⟩ := h h0
  exact ⟨b, off, hp, fun j hn => by rw [← e j hn]; exact hj j hn⟩

theorem Slc.zero {w : World} {p : Option Addr} {f : Nat → Nat} : Slc w p 0 f := fun h => absurd h (by omega)

theorem Slc.ofRow {w : World} {b t n : Nat} {f : Nat → Nat} (h : w.rowIs b t n (fun j => .int .u32 (f j : Nat))) : Slc w (some ⟨b, 0, none⟩) n f := fun _ =>
  ⟨b, 0, rfl, fun j hj => by rw [Nat.zero_add]; exact h.cell hj⟩

/-- The value v is a slice that holds the digits of x to the base B, without a leading 0. -/
def Rep (B : Nat) (w : World) (v : Value) (x : Nat) : Prop :=
  ∃ p n cap, v = .slice p n cap ∧ n ≤ cap ∧ Len B x n ∧ Slc w p n (dg B x)

theorem Rep.below {B : Nat} {w w' : World} {v : Value} {x : Nat} (h : Rep B w v x) (hb : Below w.heap.size w w') : Rep B w' v x := by
  obtain ⟨p, n, cap, hv, hn, hl, hs⟩ := h
  exact ⟨p, n, cap, hv, hn, hl, hs.below hb⟩

theorem Rep.nil {B : Nat} {w : World} : Rep B w (.slice none 0 0) 0 := ⟨none, 0, 0, rfl, Nat.le_refl _, Len.zero, Slc.zero⟩

/-- A row of a block that grows by what a new block adds: the old cells stay. -/
theorem Rep.alloc {B : Nat} {w : World} {v : Value} {x : Nat} (h : Rep B w v x) (o : Obj) : Rep B (w.alloc o) v x :=
  h.below ((Below.refl _ _).alloc (Nat.le_refl _) o)
theorem Rep.drew {B : Nat} {w : World} {v : Value} {x : Nat} (h : Rep B w v x) : Rep B w.drew v x := h.below (Below.refl _ _).drew

theorem below_of_rows {w w1 w2 : World} (h : Below w.heap.size w w1) (k : Below w1.heap.size w1 w2) : Below w.heap.size w w2 :=
  h.trans (k.mono h.size)
theorem rowIs_below {w w' : World} {b t n : Nat} {f : Nat → Value} (h : w.rowIs b t n f) (hb : Below w.heap.size w w') : w'.rowIs b t n f :=
  h.of_block (hb.block _ h.lt)

end Go.Proofs.YtdinpeglclkjhaaDoor
