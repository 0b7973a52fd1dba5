/- The natural numbers of the program: the long division. -/
import Derived.Test.YtdinpeglclkjhaaDoorNatP
namespace Go.Proofs.YtdinpeglclkjhaaDoor
open Go.RowKit Dg

theorem mix_end {D i n X P : Nat} (hP : P < W32 ^ n) : mixd D i n X P = D % W32 ^ i + W32 ^ i * X := by
  unfold mixd; rw [Nat.div_eq_of_lt hP, Nat.mul_zero, Nat.add_zero]
theorem mix_div (D i X : Nat) : (D % W32 ^ i + W32 ^ i * X) / W32 ^ i = X ∧ (D % W32 ^ i + W32 ^ i * X) % W32 ^ i = D % W32 ^ i := by
  have h1 : D % W32 ^ i < W32 ^ i := Nat.mod_lt _ (Nat.pow_pos W32_pos)
  constructor
  · rw [Nat.add_mul_div_left _ _ (Nat.pow_pos W32_pos), Nat.div_eq_of_lt h1, Nat.zero_add]
  · rw [Nat.add_mul_mod_self_left, Nat.mod_eq_of_lt h1]

/-- What takeAway leaves, where the estimate is right or 1 too great. -/
theorem take_fact {P V W q c bo X : Nat} (hX : X < W) (hP : P < W) (hV0 : 0 < V) (hc : c = 0) (hbo : bo ≤ 1) (he : X + q * V = P + W * (c + bo)) (h1 : P / V ≤ q) (h2 : q ≤ P / V + 1) :
    (bo = 0 → q = P / V ∧ X = P % V) ∧ (bo = 1 → 1 ≤ q ∧ q - 1 = P / V ∧ ∀ X' c', X' < W → X' + W * c' = X + V → X' = P % V) := by
  subst hc
  have hm := Nat.mod_add_div P V
  have hr : P % V < V := Nat.mod_lt _ hV0
  generalize hd : P / V = d at *
  generalize P % V = r at *
  have hq : q = d ∨ q = d + 1 := by omega
  constructor
  · rintro rfl
    rcases hq with rfl | rfl
    · refine ⟨rfl, ?_⟩
      rw [Nat.mul_comm V] at hm
      simp at he; omega
    · exfalso
      rw [Nat.succ_mul] at he
      rw [Nat.mul_comm V] at hm
      simp at he; omega
  · rintro rfl
    rcases hq with rfl | rfl
    · exfalso
      rw [Nat.mul_comm V] at hm
      simp at he; omega
    · refine ⟨by omega, by omega, fun X' c' hX' he' => ?_⟩
      rw [Nat.succ_mul] at he
      rw [Nat.mul_comm V] at hm
      simp at he
      have h5 : X + V = r + W := by omega
      rcases Nat.lt_trichotomy c' 1 with hc | hc | hc
      · obtain rfl : c' = 0 := by omega
        simp at he'; omega
      · subst hc; omega
      · exfalso
        have : W * 2 ≤ W * c' := Nat.mul_le_mul_left _ hc
        omega

/-- A round of the long division. -/
theorem long_round {D0 D Q V t q : Nat} (hV : 0 < V) (h : D0 = V * Q + D) (hD : D < V * W32 ^ (t + 1)) (hq : q = D / W32 ^ t / V) :
    D0 = V * (Q + W32 ^ t * q) + (D % W32 ^ t + W32 ^ t * (D / W32 ^ t % V)) ∧ D % W32 ^ t + W32 ^ t * (D / W32 ^ t % V) < V * W32 ^ t ∧ q < W32 := by
  have h1 := Nat.mod_add_div D (W32 ^ t)
  have h2 := Nat.mod_add_div (D / W32 ^ t) V
  rw [← hq] at h2
  have h3 : D % W32 ^ t < W32 ^ t := Nat.mod_lt _ (Nat.pow_pos W32_pos)
  have h4 : D / W32 ^ t % V < V := Nat.mod_lt _ hV
  have h5 : D / W32 ^ t < V * W32 := by
    refine Nat.div_lt_of_lt_mul ?_
    rw [Nat.pow_succ, ← Nat.mul_assoc] at hD
    rw [Nat.mul_comm, Nat.mul_right_comm]; exact hD
  generalize hP : D / W32 ^ t = P at *
  generalize P % V = r at *
  generalize D % W32 ^ t = l at *
  generalize W32 ^ t = W at *
  refine ⟨?_, ?_, ?_⟩
  · rw [h, ← h1, ← h2]; grind
  · have : W * (r + 1) ≤ W * V := Nat.mul_le_mul_left _ h4
    rw [Nat.mul_add, Nat.mul_comm W V] at this
    omega
  · rw [hq]; exact Nat.div_lt_of_lt_mul h5

/-- A number that is not too long for a slice of its digits. -/
theorem lt_big {x a : Nat} (h : x < W32 ^ a) (hab : a ≤ 1000000000) : x < W32 ^ 1000000000 := by
  generalize 1000000000 = b at *
  exact Nat.lt_of_lt_of_le h (Nat.pow_le_pow_right W32_pos hab)
theorem lt_pow {x a b : Nat} (h : x < W32 ^ a) (hab : a ≤ b) : x < W32 ^ b := Nat.lt_of_lt_of_le h (Nat.pow_le_pow_right W32_pos hab)

theorem LZ_nat (x : Nat) (w : World) (hx : x < 4294967296) :
    Calls Tryd.prog 136 #[.int .u32 x] w fun e w' => ∃ s : Nat, e = .returned (.int .i64 s) ∧ s ≤ 32 ∧ Len 2 x (32 - s) ∧ w = w' :=
  (LeadingZeros32_any x w hx).mono fun _ _ ⟨b, he, hb, hl, hw⟩ => ⟨32 - b, by rw [he]; exact ret_i64 (by omega), by omega, by rw [show 32 - (32 - b) = b by omega]; exact hl, hw⟩

/-- The divisor whose first bit is set. -/
theorem norm_fact {y n s : Nat} (hl : Len W32 y (n + 1)) (hs : s ≤ 32) (ht : Len 2 (dg W32 y n) (32 - s)) :
    Len W32 (y * 2 ^ s) (n + 1) ∧ 2147483648 ≤ dg W32 (y * 2 ^ s) n := by
  have hne := hl.top W32_pos (by omega)
  simp only [Nat.add_sub_cancel] at hne
  have hs1 : s < 32 := by
    rcases Nat.lt_or_ge s 32 with h | h
    · exact h
    · obtain rfl : s = 32 := by omega
      exact absurd ht.eq_zero hne
  rw [dg_top hl.1] at ht
  have hW : W32 = 2 ^ (32 - s) * 2 ^ s := by rw [← Nat.pow_add, show 32 - s + s = 32 by omega]; rfl
  have h1 : y < W32 ^ n * 2 ^ (32 - s) := (Nat.div_lt_iff_lt_mul (Nat.pow_pos W32_pos)).1 ht.1 |> fun h => by rwa [Nat.mul_comm] at h
  have h2 : 2 ^ (32 - s - 1) * W32 ^ n ≤ y := (Nat.le_div_iff_mul_le (Nat.pow_pos W32_pos)).1 (ht.2 (by omega))
  have h3 : y * 2 ^ s < W32 ^ (n + 1) := by
    have h7 : W32 ^ n * W32 = W32 ^ n * 2 ^ (32 - s) * 2 ^ s := by rw [Nat.mul_assoc, ← hW]
    rw [Nat.pow_succ, h7]
    exact Nat.mul_lt_mul_of_pos_right h1 (Nat.pow_pos (by omega))
  have h4 : 2147483648 * W32 ^ n ≤ y * 2 ^ s := by
    have h5 := Nat.mul_le_mul_right (2 ^ s) h2
    have h6 : 2 ^ (32 - s - 1) * W32 ^ n * 2 ^ s = 2147483648 * W32 ^ n := by
      rw [Nat.mul_right_comm, ← Nat.pow_add, show 32 - s - 1 + s = 31 by omega]
    rwa [h6] at h5
  refine ⟨⟨h3, fun _ => ?_⟩, ?_⟩
  · simp only [Nat.add_sub_cancel]
    have : 1 * W32 ^ n ≤ 2147483648 * W32 ^ n := Nat.mul_le_mul_right _ (by omega)
    omega
  · rw [dg_top h3]
    exact (Nat.le_div_iff_mul_le (Nat.pow_pos W32_pos)).2 h4

theorem long_start {x y a b : Nat} (hx : x < W32 ^ a) (hy : Len W32 y (b + 1)) (hab : b ≤ a) (s : Nat) : x * 2 ^ s < y * 2 ^ s * W32 ^ (a - b) := by
  have h1 := hy.2 (by omega)
  simp only [Nat.add_sub_cancel] at h1
  have h2 : W32 ^ b * W32 ^ (a - b) ≤ y * W32 ^ (a - b) := Nat.mul_le_mul_right _ h1
  rw [← Nat.pow_add, show b + (a - b) = a by omega] at h2
  rw [Nat.mul_right_comm]
  exact Nat.mul_lt_mul_of_pos_right (by omega) (Nat.pow_pos (by omega))

theorem Mk.below {B : Nat} {w0 w w' : World} {N X : Nat} (h : Mk B w0 w N X) (hb : Below w.heap.size w w') : Mk B w0 w' N X :=
  ⟨h.bel.trans (hb.mono h.bel.size), rowIs_below h.row hb⟩

/-- What holds at the head of the loop. -/
def LongRel (w1 : World) (Db Qb L lq D0 V : Nat) (ct : Value) (w : World) : Prop :=
  ∃ k D Q : Nat, k ≤ lq ∧ ct = .int .i64 ((k : Int) - 1) ∧ Below Db w1 w ∧ DRow w Db L D ∧ DRow w Qb lq Q ∧ D0 = V * Q + D ∧ D < V * W32 ^ k ∧ ∃ Q', Q = W32 ^ k * Q'

theorem LongRel.next {w1 w5 : World} {Db Qb L lq D0 V t q D Q P : Nat} (hB : Below Db w1 w5) (hP : P = D / W32 ^ t) (hV : 0 < V) (hD : DRow w5 Db L (D % W32 ^ t + W32 ^ t * (P % V))) (hQ : DRow w5 Qb lq Q)
    (hDQ : D0 = V * Q + D) (hDlt : D < V * W32 ^ (t + 1)) (hQ' : ∃ Q', Q = W32 ^ (t + 1) * Q') (hq : q = P / V) (hDb : Db < Qb) (ht : t ≤ lq) :
    LongRel w1 Db Qb L lq D0 V (.int .i64 ((t : Int) - 1)) (w5.setCell ⟨Qb, t, none⟩ (.int .u32 (q : Nat))) := by
  obtain ⟨Q1, hQ1⟩ := hQ'
  subst hP
  obtain ⟨h1, h2, h3⟩ := long_round hV hDQ hDlt hq
  refine ⟨t, _, _, ht, rfl, hB.setCell (Nat.le_of_lt hDb) _, hD.setOther (by show Db ≠ Qb; omega) _, hQ.set t q h3, ?_, h2, ?_⟩
  · have h4 := setd_val W32 Q t q
    rw [hQ1, dg_mul_pow_lt W32_pos (Nat.lt_succ_self t), Nat.mul_zero, Nat.add_zero, ← hQ1] at h4
    rw [h4]; exact h1
  · have h4 := setd_val W32 Q t q
    rw [hQ1, dg_mul_pow_lt W32_pos (Nat.lt_succ_self t), Nat.mul_zero, Nat.add_zero, ← hQ1] at h4
    refine ⟨W32 * Q1 + q, ?_⟩
    rw [h4, hQ1, Nat.pow_succ]; grind

set_option maxHeartbeats 2000000 in
set_option maxRecDepth 100000 in
theorem divLong_any (va vb : Value) (x y : Nat) (w : World) (ha : Rep W32 w va x) (hb : Rep W32 w vb y) (hx : x < W32 ^ 900000000) (hyx : y ≤ x) (hy : W32 ≤ y) :
    Calls Tryd.prog 135 #[va, vb] w fun e w' => ∃ q r, e = .returned (.tuple #[q, r]) ∧ Rep W32 w' q (x / y) ∧ Rep W32 w' r (x % y) ∧ Below w.heap.size w w' := by
  have hRa := hid ha
  have hRb := hid hb
  have Hx := hid hx
  obtain ⟨pa, na, ca, rfl, hca, hla, hsa⟩ := ha
  obtain ⟨pb, nb, cb, rfl, hcb, hlb, hsb⟩ := hb
  have hna := hla.le W32_pos hx
  have hnb : nb ≤ na := hlb.le W32_pos (Nat.lt_of_le_of_lt hyx hla.1)
  obtain ⟨k, rfl⟩ : ∃ k, nb = k + 2 := ⟨nb - 2, by
    rcases Nat.lt_or_ge nb 2 with h | h
    · have h1 := hlb.1
      have h2 := Nat.pow_le_pow_right W32_pos (show nb ≤ 1 by omega)
      rw [Nat.pow_one] at h2
      omega
    · omega⟩
  obtain ⟨b1, o1, rfl, hcb1⟩ := hsb (by omega)
  have htop := hcb1 (k + 1) (by omega)
  have hlz := LZ_nat (dg W32 y (k + 1)) w (dg_u32 _ _)
  have Hhy := hid (And.intro hyx hy)
  have hyb := lt_big hlb.1 (by omega)
  have hxb := lt_big hla.1 (by omega)
  have Hxb := hid hxb
  have Hyb := hid hyb
  have Hsa := hid hsa
  have Hlb := hid hlb
  have Hla := hid hla
  clear hx hyx hy hsa hsb hcb1 hyb hxb
  generalize hT : dg W32 y (k + 1) = T at *
  have HT := hid hT
  clear hT hla hlb
  have hmk := Tryd.mk (na + 1) (by omega)
  have hmq := Tryd.mk (na - (k + 2) + 1) (by omega)
  simp only [Int.natCast_add, Int.cast_ofNat_Int] at hmk
  rw [show ((na - (k + 2) + 1 : Nat) : Int) = (na : Int) - ((k : Int) + 2) + 1 by omega] at hmq
  go_enter Tryd.func135, Tryd.ntmps135
  go_wp2_with fail
  refine hlz.mono ?_
  rintro e w' ⟨s, rfl, hs, htl, rfl⟩
  have hnorm : Len W32 (y * 2 ^ s) (k + 2) ∧ 2147483648 ≤ dg W32 (y * 2 ^ s) (k + 1) := norm_fact Hlb.out hs (by rw [HT.out]; exact htl)
  have HN := hid hnorm
  clear hlz hnorm htl htop
  go_wp2_with fail
  refine (Shl_any _ y s _ hRb.out Hyb.out (by omega)).mono ?_
  rintro e w1 ⟨v1, rfl, hR1, hB1⟩
  have HR1 := hid hR1
  obtain ⟨pv, nv, cv, rfl, hcv, hlv, hsv⟩ := hR1
  obtain rfl := hlv.unique W32_one HN.out.1
  obtain ⟨bv, ov, rfl, hcv1⟩ := hsv (by omega)
  have hbv : bv < w1.heap.size := World.block_lt_of_cell? _ _ (hcv1 0 (by omega))
  have HC := hid hcv1
  have HB1 := hid hB1
  have HRa1 := hid ((hRa.out.below hB1).alloc (.cells (madeCells #[.int .u32 0] (na + 1)) 58))
  clear hsv hcv1 hlv hB1
  have HM1 := hid (Mk.start W32 w1 (na + 1))
  go_wp2_with fail
  refine (Shl_any _ x s _ HRa1.out Hxb.out (by omega)).mono ?_
  rintro e w3 ⟨v2, rfl, hR3, hB3⟩
  obtain ⟨p3, n3, c3, rfl, hc3, hl3, hs3⟩ := hR3
  have hx0 : x * 2 ^ s < W32 ^ (na + 1) := by
    rw [Nat.pow_succ]
    refine Nat.lt_of_lt_of_le (Nat.mul_lt_mul_of_pos_right Hla.out.1 (Nat.pow_pos (by omega))) (Nat.mul_le_mul_left _ ?_)
    exact Nat.pow_le_pow_right (n := 2) (by omega) hs
  have hn3 : n3 ≤ na + 1 := hl3.le W32_pos hx0
  have hn30 : 0 < n3 := by
    rcases Nat.eq_zero_or_pos n3 with h | h
    · subst h
      have h1 := hl3.eq_zero
      have h2 : 0 < x := by have := Hhy.out; have := W32_pos; omega
      have h3 : 0 < x * 2 ^ s := Nat.mul_pos h2 (Nat.pow_pos (by omega))
      omega
    · exact h
  have hMc := HM1.out.below hB3
  have HMc := hid hMc
  have Hs3 := hid hs3
  have hmin : x * 2 ^ s % W32 ^ n3 = x * 2 ^ s := Nat.mod_eq_of_lt hl3.1
  have Hmin := hid hmin
  have Hx0 := hid hx0
  clear hs3 hMc hmin hx0 hl3 hB3
  go_wp2_with (with_reducible refine wpList_copy_digits (dT := 22) (sT := 52) (B := W32) (w0 := w1) (N := na + 1) (n := n3) (cap := c3) (p := p3) (x := x * 2 ^ s) rfl (.tmp 27) (.tmp 30) rfl Tryd.underlying22 rfl rfl W32_pos HMc.out Hs3.out hn30 ?_)
  intro w4 hM4
  rw [Hmin.out] at hM4
  have HM4 := hid hM4
  have hsz4 : w1.heap.size < w4.heap.size := hM4.row.lt
  have hB4 : Below w1.heap.size w1 (w4.alloc (.cells (madeCells #[.int .u32 0] (na - (k + 2) + 1)) 58)) := hM4.bel.alloc (by omega) _
  have HB4 := hid hB4
  clear hM4 hB4 hmk
  go_wp2_with fail
  clear hmq
  have Hq0 := hid (show na - (k + 2) + 1 = na - (k + 1) by omega)
  have HQ4 := hid ((World.rowIs_made w4 (.int .u32 0) (na - (k + 2) + 1) 58).congr (g := fun j => .int .u32 (dg W32 0 j : Nat)) (fun j _ => by simp [dg]))
  have HD4 : DRow (w4.alloc (.cells (madeCells #[.int .u32 0] (na - (k + 2) + 1)) 58)) w1.heap.size (na + 1) (x * 2 ^ s) := HM4.out.row.alloc _
  have HD4' := hid HD4
  clear HD4
  go_loopw [10] (LongRel w1 w1.heap.size w4.heap.size (na + 1) (na - (k + 2) + 1) (x * 2 ^ s) (y * 2 ^ s)) (fun i _ => (intOf i + 1).toNat)
  case atStart =>
    refine ⟨na - (k + 2) + 1, x * 2 ^ s, 0, Nat.le_refl _, congrArg (Value.int .i64) (by omega), HB4.out, HD4'.out, HQ4.out, by omega, ?_, 0, by simp⟩
    have := long_start (x := x) (b := k + 1) Hla.out.1 Hlb.out (by omega) s
    rw [Hq0.out]; exact this
  case round =>
    obtain ⟨j, D, Q, hj, rfl, hBr, hDr, hQr, hDQ, hDlt, hQ'⟩ := hrel
    have HR := hid (And.intro hDr (And.intro hQr (And.intro hDQ (And.intro hDlt (And.intro hQ' hBr)))))
    clear hDr hQr hDQ hDlt hQ' hBr
    rcases Nat.eq_zero_or_pos j with h0 | h0
    · subst h0
      obtain ⟨hDr, hQr, hDQ, hDlt, hQ', hBr⟩ := HR.out
      rw [Nat.pow_zero, Nat.mul_one] at hDlt
      have hV0 : 0 < y * 2 ^ s := HN.out.1.pos W32_pos (by omega)
      have h2s : 0 < 2 ^ s := Nat.pow_pos (by omega)
      have hQv : Q = x / y := by
        have h1 : x * 2 ^ s / (y * 2 ^ s) = Q := by
          rw [hDQ, Nat.mul_add_div hV0, Nat.div_eq_of_lt hDlt, Nat.add_zero]
        rw [← h1, Nat.mul_div_mul_right _ _ h2s]
      have hDv : D = (x % y) * 2 ^ s := by
        have h1 : x * 2 ^ s % (y * 2 ^ s) = D := by
          rw [hDQ, Nat.mul_add_mod, Nat.mod_eq_of_lt hDlt]
        rw [← h1, Nat.mul_mod_mul_right]
      have hQlt : Q < W32 ^ (na - (k + 2) + 1) := by
        rw [hQv]
        have := long_start (x := x) (b := k + 1) Hla.out.1 Hlb.out (by omega) 0
        simp only [Nat.pow_zero, Nat.mul_one] at this
        rw [Hq0.out]
        exact Nat.div_lt_of_lt_mul this
      have hDlt' : D < W32 ^ (na + 1) := Nat.lt_trans hDlt (lt_pow HN.out.1.1 (by omega))
      have hDs : D / 2 ^ s = x % y := by rw [hDv, Nat.mul_div_cancel _ h2s]
      have hslq := Slc.ofRow hQr
      have hsld := Slc.ofRow hDr
      have HH := hid (And.intro hQv (And.intro hDs (And.intro hQlt (And.intro hDlt' (And.intro hslq (And.intro hsld hBr))))))
      clear hDr hQr hDQ hDlt hQ' hBr hV0 h2s hQv hDv hQlt hDlt' hDs hslq hsld
      go_wp2_with fail
      obtain ⟨hQv, hDs, hQlt, hDlt', hslq, hsld, hBr⟩ := HH.out
      refine (Of_any _ _ _ Q _ (by omega) (Nat.le_refl _) hQlt hslq).mono ?_
      rintro e w' ⟨mq, rfl, hmq, hlq, rfl⟩
      have HQ := hid (And.intro hmq hlq)
      clear hmq hlq hQv hDs hQlt hDlt' hslq hsld hBr
      go_wp2_with fail
      obtain ⟨hQv, hDs, hQlt, hDlt', hslq, hsld, hBr⟩ := HH.out
      refine (Of_any _ _ _ D _ (by omega) (Nat.le_refl _) hDlt' hsld).mono ?_
      rintro e w' ⟨md, rfl, hmd, hld, rfl⟩
      have HD := hid (And.intro hmd hld)
      have hRD : Rep W32 wr (.slice (some ⟨w1.heap.size, 0, none⟩) md (na + 1)) D := ⟨_, _, _, rfl, hmd, hld, hsld.take hmd⟩
      have HRD := hid (And.intro hRD (lt_big hDlt' (by omega)))
      clear hmd hld hQv hDs hQlt hDlt' hslq hsld hBr hRD
      go_wp2_with fail
      refine (Shr_any _ D s _ HRD.out.1 HRD.out.2 (by omega)).mono ?_
      rintro e w6 ⟨vr, rfl, hR6, hB6⟩
      go_wp2_with fail
      go_ret2
      obtain ⟨hQv, hDs, hQlt, hDlt', hslq, hsld, hBr⟩ := HH.out
      rw [hDs] at hR6
      have hRq : Rep W32 wr (.slice (some ⟨w4.heap.size, 0, none⟩) mq (na - (k + 2) + 1)) Q := ⟨_, _, _, rfl, HQ.out.1, HQ.out.2, hslq.take HQ.out.1⟩
      rw [hQv] at hRq
      exact ⟨_, _, rfl, hRq.below hB6, hR6, (HB1.out.trans (hBr.mono HB1.out.size)).trans (hB6.mono (Nat.le_trans HB1.out.size hBr.size))⟩
    · obtain ⟨t, rfl⟩ : ∃ t, j = t + 1 := ⟨j - 1, by omega⟩
      have e1 : ((t + 1 : Nat) : Int) - 1 = t := by omega
      rw [e1]
      clear e1
      go_wp2_with fail
      rw [show t + (k + 2) + 1 - t = k + 3 by omega]
      obtain ⟨hDr, hQr, hDQ, hDlt, hQ', hBr⟩ := HR.out
      have hV0 : 0 < y * 2 ^ s := HN.out.1.pos W32_pos (by omega)
      have hPV : D / W32 ^ t < W32 * (y * 2 ^ s) := by
        refine Nat.div_lt_of_lt_mul ?_
        rw [Nat.pow_succ, ← Nat.mul_assoc] at hDlt
        rw [Nat.mul_comm W32, ← Nat.mul_assoc, Nat.mul_comm (W32 ^ t)]; exact hDlt
      have hPlt : D / W32 ^ t < W32 ^ (k + 3) := by
        refine Nat.lt_of_lt_of_le hPV ?_
        rw [Nat.pow_succ W32 (k + 2), Nat.mul_comm]
        exact Nat.mul_le_mul_right _ (Nat.le_of_lt HN.out.1.1)
      have hVlt3 : y * 2 ^ s < W32 ^ (k + 3) := lt_pow HN.out.1.1 (by omega)
      have hs0 : ∀ j, j < k + 3 → wr.cell? ⟨w1.heap.size, t + j, none⟩ = some (.int .u32 (dg W32 (D / W32 ^ t) j : Nat)) := fun j hj => by
        rw [dg_div_pow]; exact hDr.cell (by omega)
      have hs1 : ∀ j, j < k + 2 → wr.cell? ⟨bv, ov + j, none⟩ = some (.int .u32 (dg W32 (y * 2 ^ s) j : Nat)) := fun j hj => by
        rw [hBr.cell (p := ⟨bv, ov + j, none⟩) hbv]; exact HC.out j hj
      refine (estimate_any w1.heap.size t _ bv ov cv k (D / W32 ^ t) (y * 2 ^ s) wr (by omega) hs0 hs1 hPlt HN.out.1.1 hPV HN.out.2).mono ?_
      rintro e w' ⟨q, rfl, hq, hq1, hq2, n, rfl⟩
      have hBr' := below_drewN hBr n
      have hDr' : DRow (wr.drewN n) w1.heap.size (na + 1) D := hDr
      have hQr' : DRow (wr.drewN n) w4.heap.size (na - (k + 2) + 1) Q := hQr
      have hs1' : ∀ j, j < k + 2 → (wr.drewN n).cell? ⟨bv, ov + j, none⟩ = some (.int .u32 (dg W32 (y * 2 ^ s) j : Nat)) := hs1
      have HH := hid (And.intro hBr' (And.intro hDr' (And.intro hQr' (And.intro hs1' (And.intro hDQ (And.intro hDlt (And.intro hQ' (And.intro hPlt (And.intro hVlt3 (And.intro hV0 (And.intro hq1 hq2)))))))))))
      clear hBr hDr hQr hs0 hs1 hDQ hDlt hQ' hPV hPlt hVlt3 hV0 hBr' hDr' hQr' hs1' hq1 hq2
      go_wp2_with fail
      obtain ⟨hBr, hDr, hQr, hs1, hDQ, hDlt, hQ', hPlt, hVlt3, hV0, hq1, hq2⟩ := HH.out
      refine (takeAway_any w1.heap.size t (k + 3) _ bv ov (k + 2) cv q (na + 1) D (y * 2 ^ s) (wr.drewN n) (by omega) (by omega) (by omega) (by omega) (by omega) hDr HN.out.1.1 hs1 hq).mono ?_
      rintro e w5 ⟨c, bo, X, rfl, hT⟩
      obtain ⟨hc0, hX, hXe, _, hbo, hO, hR5⟩ := hT
      rw [mix_end hPlt] at hR5
      rw [Nat.mod_eq_of_lt hPlt, Nat.mod_eq_of_lt hVlt3] at hXe
      have tf := take_fact hX hPlt hV0 (hc0 (by omega)) hbo hXe hq1 hq2
      have hQ5 := hO.row (c := w4.heap.size) (by omega) hQr
      have hB5 := hO.below (Nat.le_refl _) hBr
      have hcell := hQ5.cell (show t < na - (k + 2) + 1 by omega)
      have hfrz := hQ5.frozen t
      rcases (show bo = 0 ∨ bo = 1 by omega) with rfl | rfl
      · have hf : decide ((0 : Nat) = 1) = false := rfl
        obtain ⟨e1, e2⟩ := tf.1 rfl
        have HH5 := hid (And.intro hB5 (And.intro hR5 (And.intro hQ5 (And.intro hDQ (And.intro hDlt (And.intro hQ' (And.intro hV0 (And.intro e1 e2))))))))
        clear hB5 hR5 hQ5 hDQ hDlt hQ' hV0 e1 e2 tf hXe hX hPlt hVlt3 hq1 hq2 hs1 hQr hDr hBr hO hc0 hbo
        go_wp2_with fail
        go_roundw
        case rel =>
          obtain ⟨hB5, hR5, hQ5, hDQ, hDlt, hQ', hV0, e1, e2⟩ := HH5.out
          rw [e2] at hR5
          exact LongRel.next hB5 rfl hV0 hR5 hQ5 hDQ hDlt hQ' e1 hsz4 (by omega)
        case measure => simp [intOf]
      · have hf : decide ((1 : Nat) = 1) = true := rfl
        obtain ⟨e0, e1, e2⟩ := tf.2 rfl
        have hs5 : ∀ j, j < k + 2 → w5.cell? ⟨bv, ov + j, none⟩ = some (.int .u32 (dg W32 (y * 2 ^ s) j : Nat)) := fun j hj => by
          rw [hO.cell (p := ⟨bv, ov + j, none⟩) (by show bv ≠ w1.heap.size; omega)]; exact hs1 j hj
        have HH5 := hid (And.intro hB5 (And.intro hR5 (And.intro hQ5 (And.intro hDQ (And.intro hDlt (And.intro hQ' (And.intro hV0 (And.intro e1 (And.intro e2 (And.intro hs5 (And.intro hX (And.intro hVlt3 hO))))))))))))
        clear hB5 hR5 hQ5 hDQ hDlt hQ' hV0 e1 e2 tf hXe hX hPlt hVlt3 hq1 hq2 hs1 hQr hDr hBr hO hc0 hbo hs5 hcell hfrz
        have hq0' : (1 : Int) ≤ (q : Int) := by omega
        go_wp2_with fail
        obtain ⟨hB5, hR5, hQ5, hDQ, hDlt, hQ', hV0, e1, e2, hs5, hX, hVlt3, hO⟩ := HH5.out
        refine (putBack_any w1.heap.size t (k + 3) _ bv ov (k + 2) cv (na + 1) _ (y * 2 ^ s) w5 (by omega) (by omega) (by omega) (by omega) (by omega) hR5 HN.out.1.1 hs5).mono ?_
        rintro e w6 ⟨c', X', rfl, hX', hXe', hc', hO6, hR6⟩
        have hmd := mix_div D t X
        rw [hmd.1, Nat.mod_eq_of_lt hX, Nat.mod_eq_of_lt hVlt3] at hXe'
        rw [hmd.1, mix_end hX, hmd.2, e2 X' c' hX' hXe'] at hR6
        have hQ6 := hO6.row (c := w4.heap.size) (by omega) hQ5
        have hB6 := hO6.below (Nat.le_refl _) hB5
        have hcell := hQ6.cell (show t < na - (k + 2) + 1 by omega)
        have hfrz := hQ6.frozen t
        have HH6 := hid (And.intro hB6 (And.intro hR6 (And.intro hQ6 (And.intro hDQ (And.intro hDlt (And.intro hQ' (And.intro hV0 e1)))))))
        clear hB5 hR5 hQ5 hDQ hDlt hQ' hV0 e1 e2 hs5 hX hVlt3 hO hX' hXe' hc' hO6 hR6 hQ6 hB6 hmd
        go_wp2_with fail
        go_roundw
        case rel =>
          obtain ⟨hB6, hR6, hQ6, hDQ, hDlt, hQ', hV0, e1⟩ := HH6.out
          rw [show (q : Int) - 1 = ((q - 1 : Nat) : Int) by omega]
          exact LongRel.next hB6 rfl hV0 hR6 hQ6 hDQ hDlt hQ' e1 hsz4 (by omega)
        case measure => simp [intOf]
end Go.Proofs.YtdinpeglclkjhaaDoor
