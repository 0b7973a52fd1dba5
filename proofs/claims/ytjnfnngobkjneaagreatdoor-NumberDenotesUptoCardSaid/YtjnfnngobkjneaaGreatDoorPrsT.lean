/- Texts of numbers of the specification: run, natRead. -/
import Derived.Test.YtjnfnngobkjneaaGreatDoorPrsP
import Derived.Test.YtjnfnngobkjneaaGreatDoorRefT
import Derived.Deep.RegionHeld3
namespace Go.Proofs.YtjnfnngobkjneaaGreatDoor
open Go.RowKit Dg Dc
theorem val_take' (l : List UInt8) (i : Nat) (h : i < l.length) : val (l.take (i + 1)) = val (l.take i) * 10 + (l[i].toNat - 48) := by
  rw [List.take_succ_eq_append_getElem h, val_snoc]
theorem ten_b16 {x k : Nat} (h : x < 10 ^ k) (hk : k ≤ 1000000000) : x < B16 ^ 1000000000 := by
  have h2 : x < B16 ^ k := Nat.lt_of_lt_of_le h (Nat.pow_le_pow_left (by decide) k)
  revert hk
  generalize 1000000000 = b
  intro hk
  exact Nat.lt_of_lt_of_le h2 (Nat.pow_le_pow_right B16_pos hk)
theorem small_b {x : Nat} (h : x < 65536) : x < B16 ^ 1000000000 := by
  have h2 : x < B16 ^ 1 := by rw [Nat.pow_one]; exact h
  generalize hb : 1000000000 = b
  exact Nat.lt_of_lt_of_le h2 (Nat.pow_le_pow_right B16_pos (by omega))
theorem NatOf_z (z : Int) (w : World) (h0 : 0 ≤ z) (h1 : z < 18446744073709551616) :
    Calls Tryz.prog 61 #[.int .u64 z] w fun e w' => ∃ v, e = .returned v ∧ Rep B16 w' v z.toNat ∧ Below w.heap.size w w' := by
  obtain ⟨n, rfl⟩ : ∃ n : Nat, z = n := ⟨z.toNat, by omega⟩
  rw [Int.toNat_natCast]
  exact NatOf_any n w (by omega)

/-- The loop of natRead. -/
def NrRel (w0 : World) (l : List UInt8) (v iv : Value) (wr : World) : Prop :=
  ∃ i : Nat, i ≤ l.length ∧ iv = .int .i64 i ∧ Rep B16 wr v (val (l.take i)) ∧ Below w0.heap.size w0 wr

end Go.Proofs.YtjnfnngobkjneaaGreatDoor
