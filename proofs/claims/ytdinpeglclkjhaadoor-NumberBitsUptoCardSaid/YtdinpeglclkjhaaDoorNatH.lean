/- The natural numbers of the program: comparison. -/
import Derived.Test.YtdinpeglclkjhaaDoorNatG
namespace Go.Proofs.YtdinpeglclkjhaaDoor
open Go.RowKit Dg

/-- A call that writes nothing and draws nothing, in a region of which only the draws are told. -/
theorem quiet_gen {P : Program} {f : FuncId} {args : Array Value} {F : Nat → World} {n : Nat} {v : Value}
    (h : Calls P f args (F n) fun e w' => e = .returned v ∧ F n = w') : Calls P f args (F n) fun e w'' => e = .returned v ∧ ∃ m, w'' = F m :=
  h.mono fun _ _ ⟨he, hm⟩ => ⟨he, n, hm.symm⟩

theorem div_pow_zero {x n : Nat} (h : x < W32 ^ n) : x / W32 ^ n = 0 := Nat.div_eq_of_lt h
theorem cmp3_len {x y m n : Nat} (hx : Len W32 x m) (hy : Len W32 y n) (h : m ≠ n) : cmp3 m n = cmp3 x y := by
  rcases Nat.lt_or_ge m n with hl | hl
  · rw [cmp3_lt hl, cmp3_lt (hx.lt_of_lt W32_pos hy hl)]
  · have hl' : n < m := by omega
    rw [cmp3_gt hl', cmp3_gt (hy.lt_of_lt W32_pos hx hl')]
theorem cmp3_dg {x y k : Nat} (h : x / W32 ^ (k + 1) = y / W32 ^ (k + 1)) (hd : dg W32 x k ≠ dg W32 y k) : cmp3 (dg W32 x k) (dg W32 y k) = cmp3 x y := by
  rcases Nat.lt_or_ge (dg W32 x k) (dg W32 y k) with hl | hl
  · rw [cmp3_lt hl, cmp3_lt (lt_of_dg_lt h hl)]
  · have hl' : dg W32 y k < dg W32 x k := by omega
    rw [cmp3_gt hl', cmp3_gt (lt_of_dg_lt h.symm hl')]

set_option maxHeartbeats 400000 in
set_option maxRecDepth 100000 in
theorem Compare_any (va vb : Value) (x y : Nat) (w : World) (ha : Rep W32 w va x) (hb : Rep W32 w vb y) (hx : x < W32 ^ 1000000000) (hy : y < W32 ^ 1000000000) :
    Calls Tryd.prog 107 #[va, vb] w fun e w' => e = .returned (.int .i64 (cmp3 x y)) ∧ ∃ q, w' = w.drewN q := by
  obtain ⟨pa, na, ca, rfl, hca, hla, hsa⟩ := ha
  obtain ⟨pb, nb, cb, rfl, hcb, hlb, hsb⟩ := hb
  have hna := hla.le W32_pos hx
  have hnb := hlb.le W32_pos hy
  clear hx hy
  by_cases hn : na = nb
  · subst hn
    have hne : ((na : Int) != (na : Int)) = false := by simp
    go_enter Tryd.func107, Tryd.ntmps107
    go_wp2_with fail
    go_loopw [5] (fun i wr => ∃ k q : Nat, k ≤ na ∧ i = .int .i64 ((k : Int) - 1) ∧ x / W32 ^ k = y / W32 ^ k ∧ wr = w.drewN q) (fun i _ => (intOf i + 1).toNat)
    case atStart => exact ⟨na, 0, by omega, rfl, by rw [div_pow_zero hla.1, div_pow_zero hlb.1], rfl⟩
    case round =>
      obtain ⟨k, q, hk, rfl, he, rfl⟩ := hrel
      have HE : Hid (x / W32 ^ k = y / W32 ^ k) := he
      clear he
      rcases Nat.eq_zero_or_pos k with h0 | h0
      · subst h0
        have hxy : x = y := by simpa using HE.out
        subst hxy
        clear hsa hsb HE
        go_wp2_with fail
        go_ret
        exact ⟨ret_i64 (cmp3_eq x).symm, q, rfl⟩
      · obtain ⟨t, rfl⟩ : ∃ t, k = t + 1 := ⟨k - 1, by omega⟩
        obtain ⟨b1, o1, rfl, hc1⟩ := hsa (by omega)
        obtain ⟨b2, o2, rfl, hc2⟩ := hsb (by omega)
        have hk1 := hc1 t (by omega)
        have hk2 := hc2 t (by omega)
        have e1 : ((t + 1 : Nat) : Int) - 1 = t := by omega
        rw [e1]
        clear e1
        have HD : Hid (dg W32 x t ≠ dg W32 y t → cmp3 (dg W32 x t) (dg W32 y t) = cmp3 x y) := fun h => cmp3_dg HE.out h
        have HQ : Hid (dg W32 x t = dg W32 y t → x / W32 ^ t = y / W32 ^ t) := fun h => by
          have := HE.out
          show x / W32 ^ t = y / W32 ^ t
          rw [div_succ, div_succ W32 y, h, this]
        clear hc1 hc2 hsa hsb HE
        generalize dg W32 x t = d1 at *
        generalize dg W32 y t = d2 at *
        by_cases hd : d1 = d2
        · subst hd
          have hf : ((d1 : Int) != (d1 : Int)) = false := by simp
          go_wp2_with fail
          go_quiet (fail)
          go_wp2_with fail
          go_roundw
          case rel => exact ⟨t, _, by omega, rfl, HQ.out (by first | rfl | trivial), rfl⟩
          case measure => simp [intOf]
        · have hf : ((d1 : Int) != (d2 : Int)) = true := by simp; omega
          go_wp2_with fail
          go_quiet (fail)
          go_wp2_with fail
          go_quiet ((go_at_call 129; exact quiet_gen (cmpU32_any d1 d2 _)))
          go_wp2_with fail
          go_ret
          exact ⟨ret_i64 (HD.out hd), _, by rw [World.drewN_drewN, World.drewN_drewN]⟩
  · rw [← cmp3_len hla hlb hn]
    have hne : ((na : Int) != (nb : Int)) = true := by simp; omega
    have hcal := cmpInt_any na nb w
    clear hla hlb hsa hsb
    go_enter Tryd.func107, Tryd.ntmps107
    go_wp2_with fail
    refine hcal.mono ?_
    rintro e w' ⟨rfl, rfl⟩
    clear hcal
    go_wp2_with fail
    go_ret
    exact ⟨rfl, 0, rfl⟩
end Go.Proofs.YtdinpeglclkjhaaDoor
