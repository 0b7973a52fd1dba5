/- The natural numbers of the program: Div. -/
import Derived.Test.YtdinpeglclkjhaaDoorNatQ
namespace Go.Proofs.YtdinpeglclkjhaaDoor
open Go.RowKit Dg

theorem Rep.drewN {B : Nat} {w : World} {v : Value} {x : Nat} (h : Rep B w v x) (n : Nat) : Rep B (w.drewN n) v x := h.below (below_drewN (Below.refl _ _) n)
theorem cmp3_ge {a b : Nat} (h : b ≤ a) : 0 ≤ cmp3 a b := by
  unfold cmp3; split
  · omega
  · split <;> omega

theorem pow_of_tz {y z b : Nat} (h : Tz y z) (hl : Len 2 y b) (e : z + 1 = b) : y = 2 ^ z := by
  obtain ⟨m, hm, ho⟩ := h
  have h1 := hl.1
  rw [← e, Nat.pow_succ, hm] at h1
  have h2 := Nat.lt_of_mul_lt_mul_left h1
  obtain rfl : m = 1 := by omega
  rw [hm, Nat.mul_one]

set_option maxHeartbeats 2000000 in
set_option maxRecDepth 100000 in
theorem Div_any (va vb : Value) (x y : Nat) (w : World) (ha : Rep W32 w va x) (hb : Rep W32 w vb y) (hx : x < W32 ^ 900000000) (hy : y < W32 ^ 900000000) (hy0 : 0 < y) (ht : TabOk w) :
    Calls Tryd.prog 119 #[va, vb] w fun e w' => ∃ q r, e = .returned (.tuple #[q, r]) ∧ Rep W32 w' q (x / y) ∧ Rep W32 w' r (x % y) ∧ Below w.heap.size w w' := by
  have hxB := lt_big hx (by omega)
  have hyB := lt_big hy (by omega)
  have hz := Zeros_any vb y w hb hyB hy0 ht
  have hc := Compare_any va vb x y w ha hb hxB hyB
  have hbits := fun q => Bits_any vb y (w.drewN q) (hb.drewN q) hyB
  have Ha := hid ha
  have Hb := hid hb
  obtain ⟨pb, nb, cb, rfl, hcb, hlb, hsb⟩ := hb
  have hnb := hlb.le W32_pos hyB
  have hnb0 : 0 < nb := by
    rcases Nat.eq_zero_or_pos nb with h | h
    · subst h; have := hlb.eq_zero; omega
    · exact h
  have Hlb := hid hlb
  have Hsb := hid hsb
  have Hlt := hid (And.intro hx (And.intro hxB (And.intro hyB hy0)))
  have Hbits := hid hbits
  clear ha hx hxB hyB hbits hy hy0 ht hlb hsb
  by_cases hlt : x < y
  · rw [cmp3_lt hlt] at hc
    go_enter Tryd.func119, Tryd.ntmps119
    go_wp2_with fail
    refine hz.mono ?_
    rintro e w' ⟨z, rfl, _, rfl⟩
    clear hz
    go_wp2_with fail
    refine hc.mono ?_
    rintro e w' ⟨rfl, q, rfl⟩
    clear hc
    go_wp2_with fail
    go_ret2
    rw [Nat.div_eq_of_lt hlt, Nat.mod_eq_of_lt hlt]
    exact ⟨_, _, rfl, Rep.nil, Ha.out.drewN q, below_drewN (Below.refl _ _) q⟩
  · have hge : y ≤ x := by omega
    have hcge := cmp3_ge hge
    generalize cmp3 x y = c at *
    go_enter Tryd.func119, Tryd.ntmps119
    go_wp2_with fail
    refine hz.mono ?_
    rintro e w' ⟨z, rfl, htz, rfl⟩
    have Htz := hid htz
    clear hz htz
    go_wp2_with fail
    refine hc.mono ?_
    rintro e w' ⟨rfl, q, rfl⟩
    clear hc
    go_wp2_with fail
    refine (Hbits.out q).mono ?_
    rintro e w' ⟨b, rfl, hlen, rfl⟩
    have hb1 : 0 < b := by
      rcases Nat.eq_zero_or_pos b with h | h
      · subst h; have h1 := hlen.eq_zero; have h2 := Hlt.out.2.2.2; omega
      · exact h
    have hb2 : b ≤ 32 * nb := hlen.le (by omega) (by rw [← W32_pow]; exact Hlb.out.1)
    have Hlen := hid hlen
    clear hlen
    by_cases hzb : z + 1 = b
    · have hy2 := pow_of_tz Htz.out Hlen.out hzb
      have Hy2 := hid hy2
      have he : ((z : Int) == (b : Int) - 1) = true := by simp; omega
      have hzs : z ≤ 1000000000000 := by omega
      clear hy2 hzb
      go_wp2_with fail
      refine (Shr_any va x z _ (Ha.out.drewN q) Hlt.out.2.1 hzs).mono ?_
      rintro e w1 ⟨v1, rfl, hR1, hB1⟩
      have HR1 := hid hR1
      clear hR1
      go_wp2_with fail
      refine (tail_any va x z _ ((Ha.out.drewN q).below hB1) Hlt.out.2.1 (by rw [← Hy2.out]; exact hge)).mono ?_
      rintro e w2 ⟨v2, rfl, hR2, hB2⟩
      go_wp2_with fail
      go_ret2
      rw [Hy2.out]
      exact ⟨_, _, rfl, HR1.out.below hB2, hR2, (below_drewN (Below.refl _ _) q).trans ((hB1.mono (Nat.le_refl _)).trans (hB2.mono hB1.size))⟩
    · have he : ((z : Int) == (b : Int) - 1) = false := by simp; omega
      clear hzb
      by_cases hn1 : nb = 1
      · subst hn1
        have hy1 : y < W32 ^ 1 := Hlb.out.1
        have hdg : dg W32 y 0 = y := by rw [dg_top (i := 0) hy1]; simp
        obtain ⟨b1, o1, rfl, hc1⟩ := Hsb.out (by omega)
        have hc0 : w.cell? ⟨b1, o1, none⟩ = some (.int .u32 (y : Nat)) := by have := hc1 0 (by omega); rw [hdg] at this; exact this
        have hy32 : y < 4294967296 := by rw [Nat.pow_one] at hy1; exact hy1
        have Hy32 := hid hy32
        clear hc1 hdg hy1 hy32
        go_wp2_with fail
        refine (divWord_any va x y _ (Ha.out.drewN q) Hlt.out.2.1 Hlt.out.2.2.2 Hy32.out).mono ?_
        rintro e w1 ⟨v1, rfl, hR1, hB1⟩
        have HR1 := hid hR1
        clear hR1
        have hm : x % y < 4294967296 := Nat.lt_trans (Nat.mod_lt _ Hlt.out.2.2.2) Hy32.out
        have Hm := hid (rfl : x % y = x % y)
        generalize hmm : x % y = m at *
        have Hmm := hid hmm
        clear hmm Hm
        go_wp2_with fail
        refine (FromUint_any m _ (by rw [W32_val]; omega)).mono ?_
        rintro e w2 ⟨v2, rfl, hR2, hB2⟩
        go_wp2_with fail
        rw [← Hmm.out] at hR2
        go_ret2
        exact ⟨_, _, rfl, HR1.out.below hB2, hR2, (below_drewN (Below.refl _ _) q).trans ((hB1.mono (Nat.le_refl _)).trans (hB2.mono hB1.size))⟩
      · have hn1' : ((nb : Int) == 1) = false := by simp; omega
        have hyW : W32 ≤ y := by
          have h1 := Hlb.out.2 hnb0
          have h2 := Nat.pow_le_pow_right W32_pos (show 1 ≤ nb - 1 by omega)
          rw [Nat.pow_one] at h2
          omega
        have HyW := hid hyW
        clear hyW hn1
        go_wp2_with fail
        refine (divLong_any va _ x y _ (Ha.out.drewN q) (Hb.out.drewN q) Hlt.out.1 hge HyW.out).mono ?_
        rintro e w1 ⟨v1, v2, rfl, hR1, hR2, hB1⟩
        go_wp2_with fail
        go_ret2
        exact ⟨_, _, rfl, hR1, hR2, (below_drewN (Below.refl _ _) q).trans (hB1.mono (Nat.le_refl _))⟩
end Go.Proofs.YtdinpeglclkjhaaDoor
