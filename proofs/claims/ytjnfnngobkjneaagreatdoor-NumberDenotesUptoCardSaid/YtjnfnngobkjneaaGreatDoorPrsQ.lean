/- Texts of numbers of the program: FromDecimal. -/
import Derived.Test.YtjnfnngobkjneaaGreatDoorPrsP
namespace Go.Proofs.YtjnfnngobkjneaaGreatDoor
open Go.RowKit Dg Dc

theorem FromUint_z (z : Int) (w : World) (h0 : 0 ≤ z) (h1 : z < 18446744073709551616) :
    Calls Tryz.prog 58 #[.int .u64 z] w fun e w' => ∃ v, e = .returned v ∧ Rep W32 w' v z.toNat ∧ Below w.heap.size w w' := by
  obtain ⟨n, rfl⟩ : ∃ n : Nat, z = n := ⟨z.toNat, by omega⟩
  rw [Int.toNat_natCast]
  exact FromUint_any n w (by rw [W32_val]; omega)
theorem ten_w32 {x k : Nat} (h : x < 10 ^ k) (hk : k ≤ 1000000000) : x < W32 ^ 1000000000 :=
  lt_big (Nat.lt_of_lt_of_le h (Nat.pow_le_pow_left (by decide) k)) hk
theorem val_take (l : List UInt8) (i : Nat) (h : i < l.length) : val (l.take (i + 1)) = val (l.take i) * 10 + (l[i].toNat - 48) := by
  rw [List.take_succ_eq_append_getElem h, val_snoc]
theorem val_take_lt (l : List UInt8) (hd : ∀ c ∈ l, isDig c = true) (i : Nat) : val (l.take i) < 10 ^ l.length := by
  refine Nat.lt_of_lt_of_le (val_lt _ fun c hc => hd c (List.mem_of_mem_take hc)) (Nat.pow_le_pow_right (by decide) ?_)
  rw [List.length_take]; omega

/-- The loop of FromDecimal. -/
def FdRel (w0 : World) (l : List UInt8) (v gv sv iv : Value) (wr : World) : Prop :=
  ∃ i g c N : Nat, i ≤ l.length ∧ iv = .int .i64 i ∧ gv = .int .u64 g ∧ sv = .int .u64 (10 ^ c : Nat) ∧ c < 9 ∧ g < 10 ^ c ∧ val (l.take i) = N * 10 ^ c + g ∧ (i = l.length → c = 0) ∧ Rep W32 wr v N ∧ Below w0.heap.size w0 wr

theorem fd_step {N c g d V : Nat} (h : V = N * 10 ^ c + g) (hg : g < 10 ^ c) (hd : d < 10) : V * 10 + d = N * 10 ^ (c + 1) + (g * 10 + d) ∧ g * 10 + d < 10 ^ (c + 1) := by
  rw [Nat.pow_succ, ← Nat.mul_assoc]
  omega
theorem ten8 {c : Nat} (h : c < 9) : 10 ^ c ≤ 100000000 := Nat.le_trans (Nat.pow_le_pow_right (by decide) (show c ≤ 8 by omega)) (by decide)
theorem ten9 {c : Nat} (h : c < 8) : 10 ^ c ≤ 10000000 := Nat.le_trans (Nat.pow_le_pow_right (by decide) (show c ≤ 7 by omega)) (by decide)

set_option maxHeartbeats 4000000 in
set_option maxRecDepth 100000 in
theorem FromDecimal_any (l : List UInt8) (w : World) (hl : l.length ≤ 1000000) (hd : ∀ c ∈ l, isDig c = true) :
    Calls Tryz.prog 81 #[str l] w fun e w' => ∃ v, e = .returned v ∧ Rep W32 w' v (val l) ∧ Below w.heap.size w w' := by
  have hS := str_size l
  have hat := str_at l
  unfold str
  obtain ⟨S, hSe⟩ : ∃ S : ByteArray, S = ⟨l.toArray⟩ := ⟨_, rfl⟩
  rw [← hSe] at hS ⊢
  have HAT := hid (show ∀ k (h : k < l.length) (h' : k < S.size), S[k] = l[k] by subst hSe; exact fun k h _ => hat k h)
  have HD := hid hd
  have HS := hid hS
  have hSle : S.size ≤ 1000000 := by omega
  clear hSe hat hd hS hl
  go_enter Tryz.func81, Tryz.ntmps81
  go_wp2_with fail
  go_loopw [3, 4, 5, 9] (fun v g s i wr => FdRel w l v g s i wr) (fun _ _ _ i _ => S.size - (intOf i).toNat)
  case atStart => exact ⟨0, 0, 0, 0, Nat.zero_le _, rfl, rfl, rfl, by omega, by decide, by simp [val], fun _ => rfl, Rep.nil, Below.refl _ _⟩
  case round =>
    obtain ⟨i, g, c, N, hil, rfl, rfl, rfl, hc9, hg, hV, hend, hN, hB⟩ := hrel
    have hil2 : i ≤ S.size := by rw [HS.out]; exact hil
    by_cases hlt : i < S.size
    · have hll : i < l.length := by rw [← HS.out]; exact hlt
      have hdg := isDig_yes (HD.out _ (List.getElem_mem hll))
      rw [← HAT.out i hll hlt] at hdg
      have hst := fd_step (d := S[i].toNat - 48) hV hg (by omega)
      have hvt := val_take l i hll
      rw [← HAT.out i hll hlt] at hvt
      have hNb : N < W32 ^ 1000000000 := by
        have h1 := val_take_lt l HD.out i
        have h2 : N ≤ N * 10 ^ c := Nat.le_mul_of_pos_right _ (Nat.pow_pos (by decide))
        exact ten_w32 (k := l.length) (by omega) (by rw [← HS.out]; omega)
      have hz8 := ten8 hc9
      have hz1 : 10 ^ (c + 1) = 10 ^ c * 10 := Nat.pow_succ 10 c
      obtain ⟨hd1, hd2⟩ := hdg
      have HX := hid (And.intro hst (And.intro hvt (And.intro hNb (And.intro hN (And.intro hB (And.intro hz1 hc9))))))
      obtain ⟨z, hz⟩ : ∃ z, z = 10 ^ c := ⟨_, rfl⟩
      rw [← hz] at hz8 hg ⊢
      have HZ := hid hz
      clear hst hvt hNb hN hB hz1 hV hend hil hz
      by_cases hf : c = 8 ∨ i + 1 = S.size
      · have hcase : ((z : Int) * 10 == 1000000000) = true ∨ (((z : Int) * 10 == 1000000000) = false ∧ ((i : Int) == (S.size : Int) - 1) = true) := by
          rcases Nat.decEq z 100000000 with h | h
          · refine .inr ⟨by simp; omega, ?_⟩
            rcases hf with h8 | h8
            · exact absurd (by rw [HZ.out, h8]) h
            · simp; omega
          · exact .inl (by simp; omega)
        clear hf
        rcases hcase with hb1 | ⟨hb1, hb2⟩
        all_goals
          go_wp2_with fail
          refine (FromUint_z _ _ (by omega) (by omega)).mono ?_
          rintro e w1 ⟨v1, rfl, hv1, hB1⟩
          have hM := Mul_any _ _ _ _ w1 (HX.out.2.2.2.1.below hB1) hv1 HX.out.2.2.1 (lt_big (a := 1) (by rw [Nat.pow_one, W32_val]; omega) (by omega))
          have HB1 := hid hB1
          clear hv1 hB1
          go_wp2_with fail
          refine hM.mono ?_
          clear hM
          rintro e w2 ⟨v2, rfl, hv2, hB2⟩
          have HB2 := hid (HB1.out.trans (hB2.mono HB1.out.size))
          have HV2 := hid hv2
          clear hv2 hB2 HB1
          go_wp2_with fail
          refine (FromUint_z _ _ (by omega) (by omega)).mono ?_
          rintro e w3 ⟨v3, rfl, hv3, hB3⟩
          have hNe : N * ((z : Int) * 10).toNat + ((g : Int) * 10 + ((S[i].toNat : Int) - 48)).toNat = val (l.take (i + 1)) := by
            rw [HX.out.2.1, HX.out.1.1, HX.out.2.2.2.2.2.1, ← HZ.out, show ((z : Int) * 10).toNat = z * 10 by omega, show ((g : Int) * 10 + ((S[i].toNat : Int) - 48)).toNat = g * 10 + (S[i].toNat - 48) by omega]
          have hvl := val_take_lt l HD.out (i + 1)
          have hA := Add_any _ _ _ _ w3 (HV2.out.below hB3) hv3 (ten_w32 (k := l.length) (by omega) (by rw [← HS.out]; omega)) (lt_big (a := 1) (by rw [Nat.pow_one, W32_val]; omega) (by omega))
          rw [hNe] at hA
          have HB3 := hid (HB2.out.trans (hB3.mono HB2.out.size))
          clear hvl hNe hv3 hB3 HV2 HB2
          go_wp2_with fail
          refine hA.mono ?_
          clear hA
          rintro e w4 ⟨v4, rfl, hv4, hB4⟩
          have HB4 := hid (And.intro hv4 (HX.out.2.2.2.2.1.trans ((HB3.out.trans (hB4.mono HB3.out.size)).mono HX.out.2.2.2.2.1.size)))
          clear hv4 hB4 HB3
          go_wp2_with fail
          refine ⟨⟨i + 1, 0, 0, val (l.take (i + 1)), by omega, by go_num, rfl, rfl, by omega, by decide, by simp, fun _ => rfl, HB4.out.1, HB4.out.2⟩, ?_⟩
          simp [intOf]; omega
      · have hc8 : c < 8 := by omega
        have hz7 := ten9 hc8
        rw [← HZ.out] at hz7
        have hil3 : i + 1 < S.size := by omega
        have hb1 : ((z : Int) * 10 == 1000000000) = false := by simp; omega
        have hb2 : ((i : Int) == (S.size : Int) - 1) = false := by simp; omega
        clear hf
        go_wp2_with fail
        refine ⟨⟨i + 1, g * 10 + (S[i].toNat - 48), c + 1, N, by omega, by go_num, congrArg (Value.int .u64) (by omega), congrArg (Value.int .u64) (by rw [HX.out.2.2.2.2.2.1, ← HZ.out]; omega), by omega, HX.out.1.2, by rw [HX.out.2.1]; exact HX.out.1.1, fun h => absurd h (by rw [← HS.out]; omega), HX.out.2.2.2.1, HX.out.2.2.2.2.1⟩, ?_⟩
        simp [intOf]; omega
    · have hie : i = l.length := by rw [← HS.out]; omega
      have hc0 := hend hie
      subst hc0
      have hval := hid (show N = val l by
        rw [hie, List.take_length, Nat.pow_zero, Nat.mul_one] at hV
        have : g = 0 := by simpa using hg
        omega)
      have HX := hid (And.intro hN hB)
      clear hN hB hend hV hil hg hie
      go_wp2_with fail
      go_ret
      exact ⟨_, rfl, by rw [← hval.out]; exact HX.out.1, HX.out.2⟩
end Go.Proofs.YtjnfnngobkjneaaGreatDoor
