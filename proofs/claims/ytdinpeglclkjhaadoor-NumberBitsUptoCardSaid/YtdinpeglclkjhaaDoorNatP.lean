/- The natural numbers of the program: putting a divisor back. -/
import Derived.Test.YtdinpeglclkjhaaDoorNatO
namespace Go.Proofs.YtdinpeglclkjhaaDoor
open Go.RowKit Dg

def Put (w0 : World) (b0 L D i V : Nat) (j : Nat) (c X : Nat) (w : World) : Prop :=
  X < W32 ^ j ∧ X + W32 ^ j * c = (D / W32 ^ i) % W32 ^ j + V % W32 ^ j ∧ c ≤ 1 ∧ Only b0 w0 w ∧ DRow w b0 L (mixd D i j X (D / W32 ^ i))
def PutRel (w0 : World) (b0 L D i n V : Nat) (c ct : Value) (w : World) : Prop :=
  ∃ j cc X : Nat, j ≤ n ∧ ct = .int .i64 j ∧ c = .int .u64 cc ∧ Put w0 b0 L D i V j cc X w

set_option maxHeartbeats 1000000 in
set_option maxRecDepth 100000 in
theorem putBack_any (b0 i n cap b1 o1 m cb L D V : Nat) (w : World) (hn : n ≤ 1000000000) (hi : i + n ≤ L) (hL : L ≤ 4000000000) (hm : m ≤ 1000000000) (hne : b1 ≠ b0)
    (hrow : DRow w b0 L D) (hV : V < W32 ^ m) (hs1 : ∀ j, j < m → w.cell? ⟨b1, o1 + j, none⟩ = some (.int .u32 (dg W32 V j : Nat))) :
    Calls Tryd.prog 143 #[.slice (some ⟨b0, i, none⟩) n cap, .slice (some ⟨b1, o1, none⟩) m cb] w
      fun e w' => ∃ c X : Nat, e = .returned (.tuple #[]) ∧ Put w b0 L D i V n c X w' := by
  go_enter Tryd.func143, Tryd.ntmps143
  go_wp2_with fail
  go_loopw [4, 9] (PutRel w b0 L D i n V) (fun _ ct _ => n - (intOf ct).toNat)
  case atStart => exact ⟨0, 0, 0, by omega, rfl, rfl, by simp, by simp [Nat.mod_one], by omega, Only.refl _ _, by rw [mix_start]; exact hrow⟩
  case round =>
    obtain ⟨j, c, X, hj, rfl, rfl, hX, hXe, hc, hO, hR⟩ := hrel
    by_cases hlt : j < n
    · have hcell := hR.cell (show i + j < L by omega)
      have hfrz := hR.frozen (i + j)
      rw [dg_mix hX] at hcell
      have hwb := word_any (some ⟨b1, o1, none⟩) m cb V j wr (by omega) (by omega) hV (fun _ => ⟨b1, o1, rfl, fun t ht => by rw [hO.cell (p := ⟨b1, o1 + t, none⟩) hne]; exact hs1 t ht⟩)
      have hd := dg_u32 (D / W32 ^ i) j
      have hv := dg_u32 V j
      have HX := hid hX
      have HR := hid (fun s c' h => add_round (s := s) (c' := c') hXe h)
      have HM := hid (fun s => mix_set (D := D) (i := i) (P := D / W32 ^ i) (s := s) hX)
      have HrowO := hid (And.intro hO hR)
      clear hX hXe hs1 hrow hO hR hV
      generalize dg W32 (D / W32 ^ i) j = d at *
      generalize dg W32 V j = v at *
      go_wp2_with fail
      refine hwb.mono ?_
      rintro e w' ⟨rfl, rfl⟩
      clear hwb
      go_wp2_with fail
      go_roundw
      case rel =>
        have hs : (c + (d + v)) % 4294967296 < W32 := Nat.mod_lt _ (by decide)
        refine ⟨j + 1, (c + (d + v)) / 4294967296, X + W32 ^ j * ((c + (d + v)) % 4294967296), by omega, by go_num, congrArg (Value.int .u64) (by omega), add_lt HX.out hs,
          HR.out _ _ (by rw [W32_val]; omega), by omega, HrowO.out.1.setCell _ _, ?_⟩
        have h := HrowO.out.2.set (i + j) _ hs
        rw [HM.out, show (((c + (d + v)) % 4294967296 : Nat) : Int) = ((c : Int) + (d + v)) % 4294967296 by omega] at h
        exact h
      case measure => simp [intOf]; omega
    · have hj' : j = n := by omega
      subst hj'
      have HT := hid (show Put w b0 L D i V j c X wr from ⟨hX, hXe, hc, hO, hR⟩)
      clear hX hXe hO hR hrow hs1 hV
      go_wp2_with fail
      go_end0
      exact ⟨c, X, rfl, HT.out⟩
end Go.Proofs.YtdinpeglclkjhaaDoor
