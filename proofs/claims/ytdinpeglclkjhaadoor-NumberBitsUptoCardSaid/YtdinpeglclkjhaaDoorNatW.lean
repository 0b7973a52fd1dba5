/- The natural numbers of the program: the greatest common divisor. -/
import Derived.Test.YtdinpeglclkjhaaDoorNatV
namespace Go.Proofs.YtdinpeglclkjhaaDoor
open Go.RowKit Dg

theorem lt_9 {x a : Nat} (h : x < W32 ^ a) (hab : a ≤ 900000000) : x < W32 ^ 900000000 := by
  generalize 900000000 = b at *
  exact Nat.lt_of_lt_of_le h (Nat.pow_le_pow_right W32_pos hab)

theorem tz_lt {a z n : Nat} (h : Tz a z) (ha : a < W32 ^ n) : z < 32 * n := by
  obtain ⟨m, hm, ho⟩ := h
  have h1 : 2 ^ z * 1 ≤ 2 ^ z * m := Nat.mul_le_mul_left _ (by omega)
  rw [W32_pow] at ha
  exact (Nat.pow_lt_pow_iff_right (a := 2) (by omega)).1 (by omega)

theorem gcd_le_tz {x y m n : Nat} (hxy : x ≤ y) (hm : m % 2 = 1) : Nat.gcd (2 ^ x * m) (2 ^ y * n) = Nat.gcd m n * 2 ^ x := by
  obtain ⟨d, rfl⟩ := Nat.exists_eq_add_of_le hxy
  rw [Nat.pow_add, Nat.mul_assoc, Nat.gcd_mul_left, Nat.mul_comm]
  congr 1
  have hc : Nat.Coprime (2 ^ d) m := by
    refine Nat.Coprime.pow_left d ?_
    show Nat.gcd 2 m = 1
    rw [Nat.gcd_rec, hm]
    rfl
  exact Nat.Coprime.gcd_mul_left_cancel_right n hc

theorem gcd_tz {a b x y : Nat} (ha : Tz a x) (hb : Tz b y) : Nat.gcd a b = Nat.gcd (a / 2 ^ x) (b / 2 ^ y) * 2 ^ min x y ∧ 0 < a / 2 ^ x ∧ 0 < b / 2 ^ y := by
  obtain ⟨m, hm, ho⟩ := ha
  obtain ⟨n, hn, hp⟩ := hb
  have h1 : 0 < 2 ^ x := Nat.pow_pos (by omega)
  have h2 : 0 < 2 ^ y := Nat.pow_pos (by omega)
  have e1 : a / 2 ^ x = m := by rw [hm, Nat.mul_div_cancel_left _ h1]
  have e2 : b / 2 ^ y = n := by rw [hn, Nat.mul_div_cancel_left _ h2]
  rw [e1, e2]
  refine ⟨?_, by omega, by omega⟩
  rw [hm, hn]
  rcases Nat.le_total x y with h | h
  · rw [Nat.min_eq_left h]; exact gcd_le_tz h ho
  · rw [Nat.min_eq_right h, Nat.gcd_comm, Nat.gcd_comm m]; exact gcd_le_tz h hp

set_option maxHeartbeats 2000000 in
set_option maxRecDepth 100000 in
theorem Gcd_any (va vb : Value) (a b : Nat) (w : World) (ha : Rep W32 w va a) (hb : Rep W32 w vb b) (haB : a < W32 ^ 20000000) (hbB : b < W32 ^ 20000000) (ht : TabOk w) :
    Calls Tryd.prog 127 #[va, vb] w (GcdPost (Nat.gcd a b) w) := by
  have hza := IsZero_any va a w ha
  have hzb := IsZero_any vb b w hb
  have ha9 := lt_9 haB (by omega)
  have hb9 := lt_9 hbB (by omega)
  have HH := hid (And.intro ha (And.intro hb (And.intro (And.intro haB (lt_big haB (by omega))) (And.intro (And.intro hbB (lt_big hbB (by omega))) (And.intro ha9 (And.intro hb9 ht))))))
  clear ha hb haB hbB ht ha9 hb9
  by_cases ha0 : a = 0
  · rw [decide_eq_true ha0] at hza
    have hG : b = Nat.gcd a b := by rw [ha0, Nat.gcd_zero_left]
    have HG := hid hG
    clear hG
    go_enter Tryd.func127, Tryd.ntmps127
    go_wp2_with fail
    refine hza.mono ?_
    rintro e w' ⟨rfl, rfl⟩
    go_wp2_with fail
    go_ret
    exact ⟨_, rfl, by rw [← HG.out]; exact HH.out.2.1, Below.refl _ _⟩
  · rw [decide_eq_false ha0] at hza
    by_cases hb0 : b = 0
    · rw [decide_eq_true hb0] at hzb
      have hG : a = Nat.gcd a b := by rw [hb0, Nat.gcd_zero_right]
      have HG := hid hG
      clear hG
      go_enter Tryd.func127, Tryd.ntmps127
      go_wp2_with fail
      refine hza.mono ?_
      rintro e w' ⟨rfl, rfl⟩
      go_wp2_with fail
      refine hzb.mono ?_
      rintro e w' ⟨rfl, rfl⟩
      go_wp2_with fail
      go_ret
      exact ⟨_, rfl, by rw [← HG.out]; exact HH.out.1, Below.refl _ _⟩
    · rw [decide_eq_false hb0] at hzb
      have hta := Zeros_any va a w HH.out.1 HH.out.2.2.1.2 (by omega) HH.out.2.2.2.2.2.2
      have htb := Zeros_any vb b w HH.out.2.1 HH.out.2.2.2.1.2 (by omega) HH.out.2.2.2.2.2.2
      obtain ⟨G, hG⟩ : ∃ G, G = Nat.gcd a b := ⟨_, rfl⟩
      rw [← hG]
      have HG := hid hG
      clear hG ha0 hb0
      go_enter Tryd.func127, Tryd.ntmps127
      go_wp2_with fail
      refine hza.mono ?_
      rintro e w' ⟨rfl, rfl⟩
      go_wp2_with fail
      refine hzb.mono ?_
      rintro e w' ⟨rfl, rfl⟩
      clear hza hzb
      go_wp2_with fail
      refine hta.mono ?_
      rintro e w' ⟨x, rfl, hTa, rfl⟩
      have HTa := hid hTa
      clear hta hTa
      go_wp2_with fail
      refine htb.mono ?_
      rintro e w' ⟨y, rfl, hTb, rfl⟩
      have HTb := hid hTb
      have hx := tz_lt HTa.out HH.out.2.2.1.1
      have hy := tz_lt hTb HH.out.2.2.2.1.1
      have Hgt := hid (gcd_tz HTa.out hTb)
      clear htb hTb
      go_wp2_with fail
      refine (Shr_any va a x _ HH.out.1 HH.out.2.2.1.2 (by omega)).mono ?_
      rintro e w1 ⟨v1, rfl, hR1, hB1⟩
      have H1 := hid (And.intro hR1 hB1)
      clear hR1 hB1
      go_wp2_with fail
      refine (Shr_any vb b y _ (HH.out.2.1.below H1.out.2) HH.out.2.2.2.1.2 (by omega)).mono ?_
      rintro e w2 ⟨v2, rfl, hR2, hB2⟩
      have H2 := hid (And.intro hR2 hB2)
      clear hR2 hB2
      go_wp2_with fail
      refine (oddGcd_any v1 v2 (a / 2 ^ x) (b / 2 ^ y) _ (H1.out.1.below H2.out.2) H2.out.1 (Nat.lt_of_le_of_lt (Nat.div_le_self _ _) HH.out.2.2.2.2.1) (Nat.lt_of_le_of_lt (Nat.div_le_self _ _) HH.out.2.2.2.2.2.1) Hgt.out.2.1 Hgt.out.2.2 ((HH.out.2.2.2.2.2.2.below H1.out.2).below H2.out.2)).mono ?_
      rintro e w3 ⟨v3, rfl, hR3, hB3⟩
      have H3 := hid (And.intro hR3 hB3)
      clear hR3 hB3
      go_wp2_with fail
      rw [show min (x : Int) (y : Int) = ((min x y : Nat) : Int) by omega]
      have hgb : Nat.gcd (a / 2 ^ x) (b / 2 ^ y) < W32 ^ 1000000000 := Nat.lt_of_le_of_lt (Nat.gcd_le_left _ Hgt.out.2.1) (Nat.lt_of_le_of_lt (Nat.div_le_self _ _) HH.out.2.2.1.2)
      refine (Shl_any v3 (Nat.gcd (a / 2 ^ x) (b / 2 ^ y)) (min x y) _ H3.out.1 hgb (by omega)).mono ?_
      rintro e w4 ⟨v4, rfl, hR4, hB4⟩
      rw [← Hgt.out.1, ← HG.out] at hR4
      clear hgb
      go_wp2_with fail
      go_ret
      exact ⟨_, rfl, hR4, H1.out.2.trans ((H2.out.2.mono H1.out.2.size).trans ((H3.out.2.mono (Nat.le_trans H1.out.2.size H2.out.2.size)).trans (hB4.mono (Nat.le_trans H1.out.2.size (Nat.le_trans H2.out.2.size H3.out.2.size)))))⟩
end Go.Proofs.YtdinpeglclkjhaaDoor
