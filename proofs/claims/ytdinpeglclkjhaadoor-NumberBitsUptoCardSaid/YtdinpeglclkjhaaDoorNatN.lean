/- The natural numbers of the program: the walk of estimate. -/
import Derived.Test.YtdinpeglclkjhaaDoorNatM
namespace Go.Proofs.YtdinpeglclkjhaaDoor
open Go.RowKit Dg

def EstRel (E : Nat → Nat → Prop) (a b : Value) : Prop := ∃ q r : Nat, a = .int .u64 q ∧ b = .int .u64 r ∧ q < 18446744073709551616 ∧ r < 8589934592 ∧ E q r
theorem u64_dec (q : Nat) (hq : q < 18446744073709551616) : 1 ≤ q → IntKind.u64.wrap ((q : Int) - 1) = (q : Int) - 1 := fun h => by
  rw [u64_mod]; omega

set_option maxHeartbeats 1000000 in
set_option maxRecDepth 100000 in
theorem estimate_walk (b0 o0 cap b1 o1 cb k f s2 p2 p1 p0 P V : Nat) (w : World) (hk : k ≤ 1000000000)
    (c2 : w.cell? ⟨b0, o0 + (k + 2), none⟩ = some (.int .u32 (p2 : Nat))) (c1 : w.cell? ⟨b0, o0 + (k + 1), none⟩ = some (.int .u32 (p1 : Nat))) (c0 : w.cell? ⟨b0, o0 + k, none⟩ = some (.int .u32 (p0 : Nat)))
    (d1 : w.cell? ⟨b1, o1 + (k + 1), none⟩ = some (.int .u32 (f : Nat))) (d0 : w.cell? ⟨b1, o1 + k, none⟩ = some (.int .u32 (s2 : Nat)))
    (l2 : p2 < 4294967296) (l1 : p1 < 4294967296) (l0 : p0 < 4294967296) (lf : f < 4294967296) (ls : s2 < 4294967296) (hf0 : 1 ≤ f)
    (E : Nat → Nat → Prop) (hstart : Hid (E ((p2 * 4294967296 + p1) / f) ((p2 * 4294967296 + p1) % f)))
    (hnext : Hid (∀ q r, E q r → (4294967296 ≤ q ∨ r * 4294967296 + p0 < q * s2) → 1 ≤ q ∧ E (q - 1) (r + f)))
    (hstop : Hid (∀ q r, E q r → (4294967296 ≤ r ∨ (q < 4294967296 ∧ q * s2 ≤ r * 4294967296 + p0)) → q < 4294967296 ∧ P / V ≤ q ∧ q ≤ P / V + 1)) :
    Calls Tryd.prog 141 #[.slice (some ⟨b0, o0, none⟩) (k + 3) cap, .slice (some ⟨b1, o1, none⟩) (k + 2) cb] w
      fun e w' => ∃ q : Nat, e = .returned (.int .u32 q) ∧ q < 4294967296 ∧ P / V ≤ q ∧ q ≤ P / V + 1 ∧ ∃ n, w' = w.drewN n := by
  have hor1 := or_join64 p2 p1 l2 l1
  have hdiv := cast_quo p2 p1 f
  have hmod := cast_rem p2 p1 f
  rw [cast_join] at hor1
  have hft : (f : Int) ≠ 0 := by omega
  have hq64 : (p2 * 4294967296 + p1) / f < 18446744073709551616 := Nat.lt_of_le_of_lt (Nat.div_le_self _ _) (by omega)
  have hr32 : (p2 * 4294967296 + p1) % f < f := Nat.mod_lt _ hf0
  have Hd := hid hdiv
  have Hm := hid hmod
  clear hdiv hmod
  go_enter Tryd.func141, Tryd.ntmps141
  go_wp2_with fail
  go_quiet (fail)
  go_wp2_with fail
  go_quiet (fail)
  go_wp2_with fail
  go_quiet (fail)
  go_wp2_with fail
  clear c2 c1 d1 d0 hor1
  go_loop [9, 10] (EstRel E) (fun a _ => (intOf a).toNat)
  case atStart => exact ⟨_, _, congrArg (Value.int .u64) Hd.out.symm, congrArg (Value.int .u64) Hm.out.symm, hq64, by omega, hstart.out⟩
  case round =>
    obtain ⟨q, r, rfl, rfl, hq, hr, hE⟩ := hrel
    have HE := hid hE
    have hwq := u64_dec q hq
    have Hq := hid hq
    have Hr := hid hr
    have Hwq := hid hwq
    clear hE hwq hq64 hr32 hq hr l2 l1 hft hstart Hd Hm
    by_cases hr1 : r < 4294967296
    · by_cases hq1 : q < 4294967296
      · have hprod : (q : Int) * (s2 : Int) ≤ 18446744065119617025 := by
          have : q * s2 ≤ 4294967295 * 4294967295 := Nat.mul_le_mul (by omega) (by omega)
          rw [← Int.natCast_mul]; omega
        have hprod0 : 0 ≤ (q : Int) * (s2 : Int) := Int.mul_nonneg (by omega) (by omega)
        have hor := or_join64 r p0 hr1 l0
        rw [cast_join] at hor
        by_cases ht : r * 4294967296 + p0 < q * s2
        · have ht' : (r : Int) * 4294967296 + (p0 : Int) < (q : Int) * (s2 : Int) := by rw [← Int.natCast_mul]; omega
          have Hn := hid (hnext.out q r HE.out (.inr ht))
          have hq0 : (1 : Int) ≤ (q : Int) := by have := Hn.out.1; omega
          have a1 : (r : Int) < 4294967296 := by omega
          have b1 : decide ((r : Int) < 4294967296) = true := decide_eq_true (by omega)
          have b2 : decide ((4294967296 : Int) ≤ (q : Int)) = false := by simp; omega
          have b3 : decide ((r : Int) * 4294967296 + (p0 : Int) < (q : Int) * (s2 : Int)) = true := by simpa using ht'
          clear ht hr1
          go_wp2_with fail
          go_round
          case rel =>
            have h1 := Hn.out.1
            have h2 := Hq.out
            exact ⟨q - 1, r + f, congrArg (Value.int .u64) (by omega), congrArg (Value.int .u64) (by omega), by omega, by omega, Hn.out.2⟩
          case measure => have h1 := Hn.out.1; simp [intOf]; omega
        · have ht' : (q : Int) * (s2 : Int) ≤ (r : Int) * 4294967296 + (p0 : Int) := by rw [← Int.natCast_mul]; omega
          have Hs := hid (hstop.out q r HE.out (.inr ⟨hq1, by omega⟩))
          have a1 : (r : Int) < 4294967296 := by omega
          have Hq1 := hid hq1
          have b1 : decide ((r : Int) < 4294967296) = true := decide_eq_true (by omega)
          have b2 : decide ((4294967296 : Int) ≤ (q : Int)) = false := by simp; omega
          have b3 : decide ((r : Int) * 4294967296 + (p0 : Int) < (q : Int) * (s2 : Int)) = false := by simpa using ht'
          clear ht hr1
          go_wp2_with fail
          go_ret
          exact ⟨q, rfl, Hq1.out, Hs.out.2.1, Hs.out.2.2, _, rfl⟩
      · have Hn := hid (hnext.out q r HE.out (.inl (by omega)))
        have a1 : (r : Int) < 4294967296 := by omega
        have a2 : (4294967296 : Int) ≤ (q : Int) := by omega
        have hw := Hwq.out (by omega)
        clear hr1 hq1
        go_wp2_with fail
        go_round
        case rel =>
            have h1 := Hn.out.1
            have h2 := Hq.out
            exact ⟨q - 1, r + f, congrArg (Value.int .u64) (by omega), congrArg (Value.int .u64) (by omega), by omega, by omega, Hn.out.2⟩
        case measure => have h1 := Hn.out.1; simp [intOf]; omega
    · have Hs := hid (hstop.out q r HE.out (.inl (by omega)))
      have a1 : (4294967296 : Int) ≤ (r : Int) := by omega
      have hq1 := Hs.out.1
      have b1 : decide ((r : Int) < 4294967296) = false := by simpa using a1
      clear hr1 a1
      go_wp2_with fail
      go_ret
      exact ⟨q, rfl, Hs.out.1, Hs.out.2.1, Hs.out.2.2, _, rfl⟩

theorem estimate_any (b0 o0 cap b1 o1 cb k P V : Nat) (w : World) (hk : k ≤ 1000000000)
    (hs0 : ∀ j, j < k + 3 → w.cell? ⟨b0, o0 + j, none⟩ = some (.int .u32 (dg W32 P j : Nat))) (hs1 : ∀ j, j < k + 2 → w.cell? ⟨b1, o1 + j, none⟩ = some (.int .u32 (dg W32 V j : Nat)))
    (hP : P < W32 ^ (k + 3)) (hV : V < W32 ^ (k + 2)) (hPV : P < W32 * V) (hf : 2147483648 ≤ dg W32 V (k + 1)) :
    Calls Tryd.prog 141 #[.slice (some ⟨b0, o0, none⟩) (k + 3) cap, .slice (some ⟨b1, o1, none⟩) (k + 2) cb] w
      fun e w' => ∃ q : Nat, e = .returned (.int .u32 q) ∧ q < 4294967296 ∧ P / V ≤ q ∧ q ≤ P / V + 1 ∧ ∃ n, w' = w.drewN n :=
  estimate_walk b0 o0 cap b1 o1 cb k (dg W32 V (k + 1)) (dg W32 V k) (dg W32 P (k + 2)) (dg W32 P (k + 1)) (dg W32 P k) P V w hk
    (hs0 (k + 2) (by omega)) (hs0 (k + 1) (by omega)) (hs0 k (by omega)) (hs1 (k + 1) (by omega)) (hs1 k (by omega)) (dg_u32 _ _) (dg_u32 _ _) (dg_u32 _ _) (dg_u32 _ _) (dg_u32 _ _) (by omega)
    (Est P V k) (hid (Est.start hP hV (by omega))) (hid fun _ _ h hc => h.next hP hV hPV hc) (hid fun _ _ h hc => h.stop hP hV hPV hf hc)
end Go.Proofs.YtdinpeglclkjhaaDoor
