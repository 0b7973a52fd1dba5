/- The natural numbers of the program: several steps of Euclid's algorithm at once. -/
import Derived.Test.YtdinpeglclkjhaaDoorNatT
import Derived.Test.YtdinpeglclkjhaaDoorBase
namespace Go.Proofs.YtdinpeglclkjhaaDoor
open Go.RowKit Dg Lm

/-- What holds at the head of the loop. -/
def StepRel (w : World) (a b X Y : Nat) (sx sy su0 su1 su2 sv0 sv1 sv2 se : Value) (wr : World) : Prop :=
  ∃ (x y u0 u1 u2 v0 v1 v2 q : Nat) (ev : Bool), sx = .int .u64 x ∧ sy = .int .u64 y ∧ su0 = .int .u64 u0 ∧ su1 = .int .u64 u1 ∧ su2 = .int .u64 u2 ∧ sv0 = .int .u64 v0 ∧ sv1 = .int .u64 v1 ∧ sv2 = .int .u64 v2 ∧ se = .bool ev ∧
    wr = w.drewN q ∧ St a b X Y x y u0 u1 u2 v0 v1 v2 ev ∧ x < 18446744073709551616 ∧ u2 < 18446744073709551616 ∧ v2 < 18446744073709551616 ∧ u0 < 4294967296 ∧ v0 < 4294967296

/-- What steps returns. -/
def StepPost (a b : Nat) (w : World) (e : Ending) (w' : World) : Prop :=
  Below w.heap.size w w' ∧
  ((e = .returned (.tuple #[.slice none 0 0, .slice none 0 0, .bool false])) ∨
   ∃ v1 v2 n r, e = .returned (.tuple #[v1, v2, .bool true]) ∧ Rep W32 w' v1 n ∧ Rep W32 w' v2 r ∧ r < n ∧ r < b ∧ n ≤ b ∧ Nat.gcd n r = Nat.gcd a b)

theorem ShiftFact {a b k : Nat} (hk : Len 2 a (k + 64)) (hba : b ≤ a) : a / 2 ^ k % 18446744073709551616 = a / 2 ^ k ∧ b / 2 ^ k % 18446744073709551616 = b / 2 ^ k ∧ a / 2 ^ k < 18446744073709551616 ∧ b / 2 ^ k ≤ a / 2 ^ k := by
  have h1 : a / 2 ^ k < 2 ^ 64 := Nat.div_lt_of_lt_mul (by rw [← Nat.pow_add]; exact hk.1)
  have h2 : b / 2 ^ k ≤ a / 2 ^ k := Nat.div_le_div_right hba
  exact ⟨Nat.mod_eq_of_lt (by omega), Nat.mod_eq_of_lt (by omega), by omega, h2⟩

set_option maxHeartbeats 4000000 in
set_option maxRecDepth 100000 in
theorem steps_any (va vb : Value) (a b : Nat) (w : World) (ha : Rep W32 w va a) (hb : Rep W32 w vb b) (haB : a < W32 ^ 900000000) (hbB : b < W32 ^ 900000000) (hba : b ≤ a) (hb2 : W32 ^ 2 ≤ b) :
    Calls Tryd.prog 145 #[va, vb] w (StepPost a b w) := by
  have haG := lt_big haB (by omega)
  have hbG := lt_big hbB (by omega)
  have hbits := Bits_any va a w ha haG
  have hsz : ∃ n, n ≤ 900000000 ∧ a < W32 ^ n := by
    obtain ⟨p, n, cap, rfl, _, hl, _⟩ := ha
    exact ⟨n, hl.le W32_pos haB, hl.1⟩
  obtain ⟨na, hna, haN⟩ := hsz
  have HH := hid (And.intro ha (And.intro hb (And.intro haB (And.intro hbB (And.intro hba (And.intro hb2 (And.intro haG (And.intro hbG haN))))))))
  clear ha hb haB hbB hba hb2 haG hbG haN
  go_enter Tryd.func145, Tryd.ntmps145
  go_wp2_with fail
  refine hbits.mono ?_
  rintro e w' ⟨bb, rfl, hlen, rfl⟩
  have h65 : 65 ≤ bb := by
    obtain ⟨_, _, _, _, hba, hb2, _⟩ := HH.out
    have h1 := hlen.1
    have h2 : W32 ^ 2 = 2 ^ 64 := by decide
    rw [h2] at hb2
    have h3 : 2 ^ 64 < 2 ^ bb := by omega
    have := (Nat.pow_lt_pow_iff_right (a := 2) (by omega)).1 h3
    omega
  have hbb : bb ≤ 32 * na := hlen.le (by omega) (by rw [← W32_pow]; exact HH.out.2.2.2.2.2.2.2.2)
  obtain ⟨k, rfl⟩ : ∃ k, bb = k + 64 := ⟨bb - 64, by omega⟩
  have hSF := hid (ShiftFact hlen HH.out.2.2.2.2.1)
  have e1 : ((k + 64 : Nat) : Int) - 64 = k := by omega
  have hwx := window_any va a k w HH.out.1 HH.out.2.2.2.2.2.2.1 (by omega)
  have hwy := fun q => window_any vb b k (w.drewN q) (HH.out.2.1.drewN q) HH.out.2.2.2.2.2.2.2.1 (by omega)
  rw [hSF.out.1] at hwx
  simp only [hSF.out.2.1] at hwy
  have hSa := hid (Nat.div_add_mod a (2 ^ k))
  have hSb := hid (Nat.div_add_mod b (2 ^ k))
  obtain ⟨hS1, hS2⟩ := hSF.out.2.2
  generalize hX : a / 2 ^ k = X at *
  generalize hY : b / 2 ^ k = Y at *
  have Hwy := hid hwy
  have hXY := hid (And.intro hS1 hS2)
  clear hbits hlen hwy hX hY hSF hS1 hS2
  go_wp2_with fail
  refine hwx.mono ?_
  rintro e w' ⟨rfl, q1, rfl⟩
  clear hwx
  go_wp2_with fail
  refine (Hwy.out q1).mono ?_
  rintro e w' ⟨rfl, q2, rfl⟩
  clear e1 Hwy
  go_wp2_with fail
  go_loopw [8, 9, 10, 11, 12, 13, 14, 15, 16] (StepRel w a b X Y) (fun _ y _ _ _ _ _ _ _ _ => (intOf y).toNat)
  case atStart => exact ⟨X, Y, 0, 1, 0, 0, 0, 1, _, false, rfl, rfl, rfl, rfl, rfl, rfl, rfl, rfl, rfl, rfl, St.start hXY.out.2, hXY.out.1, by omega, by omega, by omega, by omega⟩
  case round =>
    obtain ⟨x, y, u0, u1, u2, v0, v1, v2, q, ev, rfl, rfl, rfl, rfl, rfl, rfl, rfl, rfl, rfl, rfl, hSt, hx64, hu64, hv64, hu032, hv032⟩ := hrel
    have hyx := hSt.yx
    have hv1s := hSt.v1small
    have hu1s := hSt.u1small
    have hBd := hid (fun h => hSt.bound (hXY.out.1) h)
    have hNx := hid (fun h1 h2 => hSt.next (α := a % 2 ^ k) (β := b % 2 ^ k) (S := 2 ^ k) hXY.out.1 (by rw [Nat.mul_comm]; exact hSa.out.symm) (by rw [Nat.mul_comm]; exact hSb.out.symm) (Nat.mod_lt _ (Nat.pow_pos (by omega))) (Nat.mod_lt _ (Nat.pow_pos (by omega))) h1 h2)
    have hRes := hid (fun h => hSt.result h)
    have Hx64 := hid (And.intro hx64 (And.intro hu64 hv64))
    clear hSt hx64 hu64 hv64
    by_cases hbody : v2 ≤ y ∧ v1 + v2 ≤ x - y
    · obtain ⟨hc1, hc2⟩ := hbody
      obtain ⟨b1, b2, b3, b4, b5, b6, b7⟩ := hBd.out hc1
      have g1 : decide ((v2 : Int) ≤ (y : Int)) = true := decide_eq_true (by omega)
      have g2 : decide ((v1 : Int) + (v2 : Int) ≤ (x : Int) - (y : Int)) = true := decide_eq_true (by omega)
      have hNx2 := hid (hNx.out hc1 hc2)
      have hqI : (x : Int) / (y : Int) = ((x / y : Nat) : Int) := by rw [Int.natCast_ediv]
      have hrI : (x : Int) % (y : Int) = ((x % y : Nat) : Int) := by rw [Int.natCast_emod]
      have hx64 := Hx64.out.1
      have hR64 : x % y < 18446744073709551616 := Nat.lt_of_le_of_lt (Nat.mod_le _ _) hx64
      have hQ64 : x / y < 18446744073709551616 := Nat.lt_of_le_of_lt (Nat.div_le_self _ _) hx64
      have w1 : IntKind.u64.wrap (((x / y : Nat) : Int) * (u2 : Int)) = ((x / y * u2 : Nat) : Int) := by rw [← Int.natCast_mul, u64_mod]; omega
      have w2 : IntKind.u64.wrap ((u1 : Int) + ((x / y * u2 : Nat) : Int)) = ((u1 + x / y * u2 : Nat) : Int) := by rw [u64_mod]; omega
      have w3 : IntKind.u64.wrap (((x / y : Nat) : Int) * (v2 : Int)) = ((x / y * v2 : Nat) : Int) := by rw [← Int.natCast_mul, u64_mod]; omega
      have w4 : IntKind.u64.wrap ((v1 : Int) + ((x / y * v2 : Nat) : Int)) = ((v1 + x / y * v2 : Nat) : Int) := by rw [u64_mod]; omega
      have hRy : x % y < y := Nat.mod_lt _ b3
      have HrI := hid hrI
      generalize hU : u1 + x / y * u2 = U at *
      generalize hV : v1 + x / y * v2 = V at *
      generalize hMu : x / y * u2 = Mu at *
      generalize hMv : x / y * v2 = Mv at *
      generalize x / y = Q at *
      generalize x % y = R at *
      have HB := hid (And.intro b6 (And.intro b7 hR64))
      clear hU hV hMu hMv hBd hNx hRes b4 b5 b6 b7 hR64
      go_wp2_with fail
      go_quiet (fail)
      go_wp2_with fail
      go_roundw
      case rel =>
        obtain ⟨b6, b7, hR64⟩ := HB.out
        exact ⟨y, R, u1, u2, U, v1, v2, V, _, !ev, rfl, congrArg (Value.int .u64) HrI.out, rfl, rfl, rfl, rfl, rfl, rfl, rfl, rfl, hNx2.out, by omega, b7, b6, by omega, by omega⟩
      case measure =>
        have e := HrI.out
        show (intOf (Value.int .u64 ((x : Int) % (y : Int)))).toNat < (intOf (Value.int .u64 (y : Int))).toNat
        simp only [intOf]
        rw [e]; omega
    · have hx64 := Hx64.out.1
      have hex : (y < v2) ∨ (v2 < 4294967296 ∧ v2 ≤ y ∧ x - y < v1 + v2) := by
        by_cases hc1 : v2 ≤ y
        · right
          exact ⟨(hBd.out hc1).1, hc1, by omega⟩
        · left
          omega
      have hWq := hid (HH.out)
      clear hbody hBd hNx
      rcases hex with g1 | ⟨g0, g1, g2⟩
      all_goals
        by_cases hz : v0 = 0
        · subst hz
          clear hRes
          go_wp2_with fail
          go_ret3
          exact ⟨below_drewN (Below.refl _ _) q, .inl rfl⟩
        · have hz' : ((v0 : Int) == 0) = false := by simpa using hz
          obtain ⟨n, r, hn, hr, hrn, hrb, hnb, hg⟩ := hRes.out hz
          have HR := hid (And.intro hrn (And.intro hrb (And.intro hnb hg)))
          clear hRes hrn hrb hnb hg
          cases ev
          · simp only [cmb, Bool.not_false, if_true, Bool.false_eq_true, if_false] at hn hr
            have l1 : a * u0 ≤ b * v0 := by
              have e1 : ((v0 * b : Nat) : Int) = ((u0 * a : Nat) : Int) + n := by push_cast; omega
              rw [Nat.mul_comm a, Nat.mul_comm b]; omega
            have l2 : b * v1 ≤ a * u1 := by
              have e1 : ((u1 * a : Nat) : Int) = ((v1 * b : Nat) : Int) + r := by push_cast; omega
              rw [Nat.mul_comm a, Nat.mul_comm b]; omega
            have d1 : b * v0 - a * u0 = n := by
              have e1 : ((v0 * b : Nat) : Int) = ((u0 * a : Nat) : Int) + n := by push_cast; omega
              rw [Nat.mul_comm a, Nat.mul_comm b]; omega
            have d2 : a * u1 - b * v1 = r := by
              have e1 : ((u1 * a : Nat) : Int) = ((v1 * b : Nat) : Int) + r := by push_cast; omega
              rw [Nat.mul_comm a, Nat.mul_comm b]; omega
            have HD := hid (And.intro l1 (And.intro l2 (And.intro d1 d2)))
            clear l1 l2 d1 d2 hn hr
            go_wp2_with fail
            refine (difference_any vb va b a v0 u0 _ (HH.out.2.1.drewN q) (HH.out.1.drewN q) HH.out.2.2.2.1 HH.out.2.2.1 hv032 hu032 HD.out.1).mono ?_
            rintro e w1 ⟨z1, rfl, hR1, hB1⟩
            have HR1 := hid hR1
            clear hR1
            go_wp2_with fail
            refine (difference_any va vb a b u1 v1 _ ((HH.out.1.drewN q).below hB1) ((HH.out.2.1.drewN q).below hB1) HH.out.2.2.1 HH.out.2.2.2.1 hu1s hv1s HD.out.2.1).mono ?_
            rintro e w2 ⟨z2, rfl, hR2, hB2⟩
            have HR2 := hid hR2
            clear hR2
            go_wp2_with fail
            go_ret3
            have k1 := HR1.out.below hB2
            have k2 := HR2.out
            rw [HD.out.2.2.1] at k1
            rw [HD.out.2.2.2] at k2
            exact ⟨(below_drewN (Below.refl _ _) q).trans ((hB1.mono (Nat.le_refl _)).trans (hB2.mono hB1.size)), .inr ⟨_, _, n, r, rfl, k1, k2, HR.out.1, HR.out.2.1, HR.out.2.2.1, HR.out.2.2.2⟩⟩
          · simp only [cmb, Bool.not_true, if_true, Bool.false_eq_true, if_false] at hn hr
            have l1 : b * v0 ≤ a * u0 := by
              have e1 : ((u0 * a : Nat) : Int) = ((v0 * b : Nat) : Int) + n := by push_cast; omega
              rw [Nat.mul_comm a, Nat.mul_comm b]; omega
            have l2 : a * u1 ≤ b * v1 := by
              have e1 : ((v1 * b : Nat) : Int) = ((u1 * a : Nat) : Int) + r := by push_cast; omega
              rw [Nat.mul_comm a, Nat.mul_comm b]; omega
            have d1 : a * u0 - b * v0 = n := by
              have e1 : ((u0 * a : Nat) : Int) = ((v0 * b : Nat) : Int) + n := by push_cast; omega
              rw [Nat.mul_comm a, Nat.mul_comm b]; omega
            have d2 : b * v1 - a * u1 = r := by
              have e1 : ((v1 * b : Nat) : Int) = ((u1 * a : Nat) : Int) + r := by push_cast; omega
              rw [Nat.mul_comm a, Nat.mul_comm b]; omega
            have HD := hid (And.intro l1 (And.intro l2 (And.intro d1 d2)))
            clear l1 l2 d1 d2 hn hr
            go_wp2_with fail
            refine (difference_any va vb a b u0 v0 _ (HH.out.1.drewN q) (HH.out.2.1.drewN q) HH.out.2.2.1 HH.out.2.2.2.1 hu032 hv032 HD.out.1).mono ?_
            rintro e w1 ⟨z1, rfl, hR1, hB1⟩
            have HR1 := hid hR1
            clear hR1
            go_wp2_with fail
            refine (difference_any vb va b a v1 u1 _ ((HH.out.2.1.drewN q).below hB1) ((HH.out.1.drewN q).below hB1) HH.out.2.2.2.1 HH.out.2.2.1 hv1s hu1s HD.out.2.1).mono ?_
            rintro e w2 ⟨z2, rfl, hR2, hB2⟩
            have HR2 := hid hR2
            clear hR2
            go_wp2_with fail
            go_ret3
            have k1 := HR1.out.below hB2
            have k2 := HR2.out
            rw [HD.out.2.2.1] at k1
            rw [HD.out.2.2.2] at k2
            exact ⟨(below_drewN (Below.refl _ _) q).trans ((hB1.mono (Nat.le_refl _)).trans (hB2.mono hB1.size)), .inr ⟨_, _, n, r, rfl, k1, k2, HR.out.1, HR.out.2.1, HR.out.2.2.1, HR.out.2.2.2⟩⟩
end Go.Proofs.YtdinpeglclkjhaaDoor
