/- The natural numbers of the program: difference of two multiples. -/
import Derived.Test.YtdinpeglclkjhaaDoorNatS
namespace Go.Proofs.YtdinpeglclkjhaaDoor
open Go.RowKit Dg

theorem diff_round {X a b x y cp cm bo cp' cm' bo' s j : Nat} (h : X + (b % W32 ^ j) * y + W32 ^ j * cp = (a % W32 ^ j) * x + W32 ^ j * (bo + cm))
    (hs : s + (cm + dg W32 b j * y + bo) + W32 * cp' = cp + dg W32 a j * x + W32 * (bo' + cm')) :
    X + W32 ^ j * s + (b % W32 ^ (j + 1)) * y + W32 ^ (j + 1) * cp' = (a % W32 ^ (j + 1)) * x + W32 ^ (j + 1) * (bo' + cm') := by
  have e : W32 ^ j * (s + (cm + dg W32 b j * y + bo) + W32 * cp') = W32 ^ j * (cp + dg W32 a j * x + W32 * (bo' + cm')) := by rw [hs]
  rw [mod_succ, mod_succ, Nat.pow_succ, Nat.mul_assoc, Nat.mul_assoc, Nat.add_mul, Nat.add_mul, Nat.mul_assoc (W32 ^ j) (dg W32 b j), Nat.mul_assoc (W32 ^ j) (dg W32 a j)]
  simp only [Nat.mul_add] at e h ⊢
  omega

/-- What the loop knows. -/
def Diff (w : World) (a b x y N m : Nat) (j cp cm bo X : Nat) (wr : World) : Prop :=
  (m < j → cp = 0 ∧ cm = 0) ∧ X < W32 ^ j ∧ X + (b % W32 ^ j) * y + W32 ^ j * cp = (a % W32 ^ j) * x + W32 ^ j * (bo + cm) ∧ cp < 4294967296 ∧ cm < 4294967296 ∧ bo ≤ 1 ∧ Mk W32 w wr N X
def DiffRel (w : World) (a b x y N m : Nat) (p mi bo ct : Value) (wr : World) : Prop :=
  ∃ j cp cm bb X : Nat, j ≤ N ∧ ct = .int .i64 j ∧ p = .int .u64 cp ∧ mi = .int .u64 cm ∧ bo = .int .u64 bb ∧ Diff w a b x y N m j cp cm bb X wr

theorem prod32 (d x : Nat) (hd : d < 4294967296) (hx : x < 4294967296) : (d : Int) * (x : Int) ≤ 18446744065119617025 ∧ 0 ≤ (d : Int) * (x : Int) ∧ d * x ≤ 18446744065119617025 := by
  have h : d * x ≤ 4294967295 * 4294967295 := Nat.mul_le_mul (by omega) (by omega)
  refine ⟨?_, Int.mul_nonneg (by omega) (by omega), by omega⟩
  rw [← Int.natCast_mul]; omega

theorem and_low' (c d x : Nat) (hc : c < 4294967296) (hd : d < 4294967296) (hx : x < 4294967296) : bits .and .u64 ((c : Int) + (d : Int) * (x : Int)) 4294967295 = (((c + d * x) % 4294967296 : Nat) : Int) := by
  have := (prod32 d x hd hx).2.2
  rw [← and_low _ (by omega)]; rfl

set_option maxHeartbeats 2000000 in
set_option maxRecDepth 100000 in
theorem difference_any (va vb : Value) (a b x y : Nat) (w : World) (ha : Rep W32 w va a) (hb : Rep W32 w vb b) (haB : a < W32 ^ 900000000) (hbB : b < W32 ^ 900000000)
    (hx : x < 4294967296) (hy : y < 4294967296) (hle : b * y ≤ a * x) :
    Calls Tryd.prog 148 #[va, .int .u64 x, vb, .int .u64 y] w fun e w' => ∃ v, e = .returned v ∧ Rep W32 w' v (a * x - b * y) ∧ Below w.heap.size w w' := by
  obtain ⟨pa, na, ca, rfl, hca, hla, hsa⟩ := ha
  obtain ⟨pb, nb, cb, rfl, hcb, hlb, hsb⟩ := hb
  have hna := hla.le W32_pos haB
  have hnb := hlb.le W32_pos hbB
  have hmk := Tryd.mk (max na nb + 1) (by omega)
  rw [show ((max na nb + 1 : Nat) : Int) = max (na : Int) (nb : Int) + 1 by omega] at hmk
  have Hla := hid (And.intro hla.1 (And.intro hlb.1 hle))
  have Hsa := hid (And.intro hsa hsb)
  clear haB hbB hla hlb hle hsa hsb
  go_enter Tryd.func148, Tryd.ntmps148
  go_wp2_with fail
  clear hmk
  go_loopw [10, 11, 12, 24] (DiffRel w a b x y (max na nb + 1) (max na nb)) (fun _ _ _ ct _ => max na nb + 1 - (intOf ct).toNat)
  case atStart =>
    refine ⟨0, 0, 0, 0, 0, by omega, rfl, rfl, rfl, rfl, fun h => absurd h (by omega), by simp, by simp [Nat.mod_one], by omega, by omega, by omega, ?_⟩
    exact Mk.start _ _ _
  case round =>
    obtain ⟨j, cp, cm, bo, X, hj, rfl, rfl, rfl, rfl, hz, hX, hXe, hcp, hcm, hbo, hM⟩ := hrel
    by_cases hlt : j < max na nb + 1
    · have hlt' : (na < nb ∧ j < nb + 1) ∨ (nb ≤ na ∧ j < na + 1) := by omega
      have hsa' := Hsa.out.1.below hM.bel
      have hsb' := Hsa.out.2.below hM.bel
      have hwa := word_any pa na ca a j wr (by omega) (by omega) Hla.out.1 hsa'
      have hwb := word_any pb nb cb b j wr (by omega) (by omega) Hla.out.2.1 hsb'
      have da := dg_u32 a j
      have db := dg_u32 b j
      have hza := hid (fun h : max na nb ≤ j => dg_zero' W32_pos Hla.out.1 (show na ≤ j by omega))
      have hzb := hid (fun h : max na nb ≤ j => dg_zero' W32_pos Hla.out.2.1 (show nb ≤ j by omega))
      have hcell := hM.cell hlt
      have hfrz := hM.row.frozen j
      have HR := hid (fun s cp' cm' bo' h => diff_round (s := s) (cp' := cp') (cm' := cm') (bo' := bo') hXe h)
      have HX := hid hX
      have HM := hid hM
      clear hz hX hXe hM hsa' hsb'
      generalize dg W32 a j = d1 at *
      generalize dg W32 b j = d2 at *
      have hp1 := (prod32 d1 x da hx).1
      have hp2 := (prod32 d1 x da hx).2.1
      have hp3 := hid (prod32 d1 x da hx).2.2
      have hq1 := (prod32 d2 y db hy).1
      have hq2 := (prod32 d2 y db hy).2.1
      have hq3 := hid (prod32 d2 y db hy).2.2
      have hand1 := and_low' cp d1 x hcp da hx
      have hand2 := and_low' cm d2 y hcm db hy
      generalize hp0 : (cp + d1 * x) % 4294967296 = p0 at *
      generalize hm0 : (cm + d2 * y) % 4294967296 = m0 at *
      have hp0l : p0 < 4294967296 := by rw [← hp0]; exact Nat.mod_lt _ (by omega)
      have hm0l : m0 < 4294967296 := by rw [← hm0]; exact Nat.mod_lt _ (by omega)
      have Hp0 := hid hp0
      have Hm0 := hid hm0
      clear hp0 hm0
      by_cases hb : m0 + bo ≤ p0
      · go_wp2_with fail
        refine hwa.mono ?_
        rintro e w' ⟨rfl, rfl⟩
        go_wp2_with fail
        refine hwb.mono ?_
        rintro e w' ⟨rfl, rfl⟩
        clear hwa hwb
        go_wp2_with fail
        go_roundw
        case rel =>
          have hs : p0 - m0 - bo < W32 := by rw [W32_val]; omega
          have e1 := Hp0.out
          have e2 := Hm0.out
          have e3 := hp3.out
          have e4 := hq3.out
          refine ⟨j + 1, (cp + d1 * x) / 4294967296, (cm + d2 * y) / 4294967296, 0, X + W32 ^ j * (p0 - m0 - bo), by omega, by go_num, congrArg (Value.int .u64) (by rw [← Int.natCast_mul]; omega), congrArg (Value.int .u64) (by rw [← Int.natCast_mul]; omega), congrArg (Value.int .u64) (by omega),
            fun h => ?_, add_lt HX.out hs, HR.out _ _ _ _ (by rw [W32_val]; omega), by omega, by omega, by omega, HM.out.push W32_pos HX.out hs (by omega)⟩
          have f1 := hza.out (by omega)
          have f2 := hzb.out (by omega)
          subst f1 f2
          omega
        case measure => simp [intOf]; omega
      · have hw := u64_take p0 m0 bo hp0l hm0l hbo (by omega)
        have Hw := hid hw
        clear hw
        go_wp2_with fail
        refine hwa.mono ?_
        rintro e w' ⟨rfl, rfl⟩
        go_wp2_with fail
        refine hwb.mono ?_
        rintro e w' ⟨rfl, rfl⟩
        clear hwa hwb
        go_wp2_with fail
        go_roundw
        case rel =>
          have hs : 4294967296 + p0 - m0 - bo < W32 := by rw [W32_val]; omega
          have e1 := Hp0.out
          have e2 := Hm0.out
          have e3 := hp3.out
          have e4 := hq3.out
          rw [Hw.out]
          refine ⟨j + 1, (cp + d1 * x) / 4294967296, (cm + d2 * y) / 4294967296, 1, X + W32 ^ j * (4294967296 + p0 - m0 - bo), by omega, by go_num, congrArg (Value.int .u64) (by rw [← Int.natCast_mul]; omega), congrArg (Value.int .u64) (by rw [← Int.natCast_mul]; omega), congrArg (Value.int .u64) (by omega),
            fun h => ?_, add_lt HX.out hs, HR.out _ _ _ _ (by rw [W32_val]; omega), by omega, by omega, by omega, HM.out.push W32_pos HX.out hs (by omega)⟩
          have f1 := hza.out (by omega)
          have f2 := hzb.out (by omega)
          subst f1 f2
          omega
        case measure => simp [intOf]; omega
    · have hj' : j = max na nb + 1 := by omega
      obtain ⟨z1, z2⟩ := hz (by omega)
      subst z1 z2
      have hva : a < W32 ^ j := lt_pow Hla.out.1 (by omega)
      have hvb : b < W32 ^ j := lt_pow Hla.out.2.1 (by omega)
      rw [Nat.mod_eq_of_lt hva, Nat.mod_eq_of_lt hvb] at hXe
      have hle := Hla.out.2.2
      have hXv : X = a * x - b * y := by
        rcases (show bo = 0 ∨ bo = 1 by omega) with rfl | rfl
        · simp only [Nat.mul_zero, Nat.add_zero] at hXe; omega
        · exfalso; simp only [Nat.mul_zero, Nat.add_zero, Nat.mul_one] at hXe; omega
      have hsl := hM.slc
      have hbel := hM.bel
      rw [← hj'] at hsl
      have HH := hid (And.intro hXv (And.intro hX (And.intro hsl hbel)))
      clear hXv hX hsl hbel hM hXe hz hva hvb hle
      go_wp2_with fail
      obtain ⟨hXv, hX, hsl, hbel⟩ := HH.out
      refine (Of_any _ _ _ X _ (by omega) (Nat.le_refl _) ?_ ?_).mono ?_
      · rw [← hj']; exact hX
      · rw [← hj']; exact hsl
      rintro e w' ⟨m, rfl, hm, hlen, rfl⟩
      clear HH hX
      have HH2 := hid (And.intro hXv (And.intro hsl (And.intro hbel (And.intro hm hlen))))
      clear hXv hsl hbel hm hlen
      go_wp2_with fail
      go_ret
      obtain ⟨hXv, hsl, hbel, hm, hlen⟩ := HH2.out
      rw [← hXv]
      exact ⟨_, rfl, ⟨_, _, _, rfl, hm, hlen, hsl.take (by omega)⟩, hbel⟩
end Go.Proofs.YtdinpeglclkjhaaDoor
