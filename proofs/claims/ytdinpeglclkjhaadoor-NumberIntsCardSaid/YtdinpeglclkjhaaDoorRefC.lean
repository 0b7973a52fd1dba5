/- The natural numbers of the specification: NatCmp. -/
import Derived.Test.YtdinpeglclkjhaaDoorRefB
namespace Go.Proofs.YtdinpeglclkjhaaDoor
open Go.RowKit Dg

theorem cmp3_len16 {x y m n : Nat} (hx : Len B16 x m) (hy : Len B16 y n) (h : m ≠ n) : cmp3 m n = cmp3 x y := by
  rcases Nat.lt_or_ge m n with hl | hl
  · rw [cmp3_lt hl, cmp3_lt (hx.lt_of_lt B16_pos hy hl)]
  · have hl' : n < m := by omega
    rw [cmp3_gt hl', cmp3_gt (hy.lt_of_lt B16_pos hx hl')]
theorem cmp3_dg16 {x y k : Nat} (h : x / B16 ^ (k + 1) = y / B16 ^ (k + 1)) (hd : dg B16 x k ≠ dg B16 y k) : cmp3 (dg B16 x k) (dg B16 y k) = cmp3 x y := by
  rcases Nat.lt_or_ge (dg B16 x k) (dg B16 y k) with hl | hl
  · rw [cmp3_lt hl, cmp3_lt (lt_of_dg_lt h hl)]
  · have hl' : dg B16 y k < dg B16 x k := by omega
    rw [cmp3_gt hl', cmp3_gt (lt_of_dg_lt h.symm hl')]

set_option maxHeartbeats 1000000 in
set_option maxRecDepth 100000 in
theorem NatCmp_any (va vb : Value) (x y : Nat) (w : World) (ha : Rep B16 w va x) (hb : Rep B16 w vb y) (hx : x < B16 ^ 1000000000) (hy : y < B16 ^ 1000000000) :
    Calls Tryd.prog 64 #[va, vb] w fun e w' => e = .returned (.int .i64 (cmp3 x y)) ∧ ∃ q, w' = w.drewN q := by
  obtain ⟨pa, na, ca, rfl, hca, hla, hsa⟩ := ha
  obtain ⟨pb, nb, cb, rfl, hcb, hlb, hsb⟩ := hb
  have hna := hla.le B16_pos hx
  have hnb := hlb.le B16_pos hy
  clear hx hy
  by_cases hn : na = nb
  · subst hn
    have hne : ((na : Int) != (na : Int)) = false := by simp
    go_enter Tryd.func64, Tryd.ntmps64
    go_wp2_with fail
    go_loopw [5] (fun i wr => ∃ k q : Nat, k ≤ na ∧ i = .int .i64 ((k : Int) - 1) ∧ x / B16 ^ k = y / B16 ^ k ∧ wr = w.drewN q) (fun i _ => (intOf i + 1).toNat)
    case atStart => exact ⟨na, 0, by omega, rfl, by rw [Nat.div_eq_of_lt hla.1, Nat.div_eq_of_lt hlb.1], rfl⟩
    case round =>
      obtain ⟨k, q, hk, rfl, he, rfl⟩ := hrel
      have HE : Hid (x / B16 ^ k = y / B16 ^ k) := he
      clear he
      rcases Nat.eq_zero_or_pos k with h0 | h0
      · subst h0
        have hxy : x = y := by simpa using HE.out
        subst hxy
        clear hsa hsb HE
        go_wp2_with fail
        go_ret
        exact ⟨ret_i64 (cmp3_eq x).symm, q, rfl⟩
      · obtain ⟨t, rfl⟩ : ∃ t, k = t + 1 := ⟨k - 1, by omega⟩
        obtain ⟨b1, o1, rfl, hc1⟩ := hsa (by omega)
        obtain ⟨b2, o2, rfl, hc2⟩ := hsb (by omega)
        have hk1 := hc1 t (by omega)
        have hk2 := hc2 t (by omega)
        have e1 : ((t + 1 : Nat) : Int) - 1 = t := by omega
        rw [e1]
        clear e1
        have HD : Hid (dg B16 x t ≠ dg B16 y t → cmp3 (dg B16 x t) (dg B16 y t) = cmp3 x y) := fun h => cmp3_dg16 HE.out h
        have HQ : Hid (dg B16 x t = dg B16 y t → x / B16 ^ t = y / B16 ^ t) := fun h => by
          have := HE.out
          show x / B16 ^ t = y / B16 ^ t
          rw [div_succ, div_succ B16 y, h, this]
        clear hc1 hc2 hsa hsb HE
        generalize dg B16 x t = d1 at *
        generalize dg B16 y t = d2 at *
        rcases Nat.lt_trichotomy d1 d2 with hd | hd | hd
        · have HC : Hid (cmp3 x y = -1) := hid (by rw [← HD.out (by omega)]; exact cmp3_lt hd)
          go_wp2_with fail
          go_quiet (fail)
          go_wp2_with fail
          go_ret
          exact ⟨by rw [HC.out]; rfl, _, by rw [World.drewN_drewN]⟩
        · subst hd
          go_wp2_with fail
          go_quiet (fail)
          go_wp2_with fail
          go_quiet (fail)
          go_wp2_with fail
          go_roundw
          case rel => exact ⟨t, _, by omega, rfl, HQ.out (by first | rfl | trivial), by first | rfl | rw [World.drewN_drewN, World.drewN_drewN]⟩
          case measure => simp [intOf]
        · have HC : Hid (cmp3 x y = 1) := hid (by rw [← HD.out (by omega)]; exact cmp3_gt hd)
          go_wp2_with fail
          go_quiet (fail)
          go_wp2_with fail
          go_quiet (fail)
          go_wp2_with fail
          go_ret
          exact ⟨by rw [HC.out]; rfl, _, by first | rfl | rw [World.drewN_drewN, World.drewN_drewN]⟩
  · rw [← cmp3_len16 hla hlb hn]
    have hne : ((na : Int) != (nb : Int)) = true := by simp; omega
    clear hla hlb hsa hsb
    rcases Nat.lt_or_ge na nb with hl | hl
    · rw [cmp3_lt hl]
      go_enter Tryd.func64, Tryd.ntmps64
      go_wp2_with fail
      go_ret
      exact ⟨rfl, 0, rfl⟩
    · rw [cmp3_gt (by omega : nb < na)]
      go_enter Tryd.func64, Tryd.ntmps64
      go_wp2_with fail
      go_ret
      exact ⟨rfl, 0, rfl⟩
end Go.Proofs.YtdinpeglclkjhaaDoor
