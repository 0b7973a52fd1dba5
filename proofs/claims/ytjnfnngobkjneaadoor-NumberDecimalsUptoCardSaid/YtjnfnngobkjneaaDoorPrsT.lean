/- Texts of numbers of the specification: run, natRead. -/
import Derived.Test.YtjnfnngobkjneaaDoorPrsP
import Derived.Test.YtjnfnngobkjneaaDoorRefT
import Derived.Deep.RegionHeld3
namespace Go.Proofs.YtjnfnngobkjneaaDoor
open Go.RowKit Dg Dc

set_option maxHeartbeats 2000000 in
set_option maxRecDepth 100000 in
theorem run_any (l : List UInt8) (w : World) (hl : l.length ≤ 1000000) :
    Calls Tryd.prog 24 #[str l, .int .i64 0] w fun e w' => e = .returned (.int .i64 (dn l)) ∧ w = w' := by
  have hS := str_size l
  have hat := str_at l
  unfold str
  obtain ⟨S, hSe⟩ : ∃ S : ByteArray, S = ⟨l.toArray⟩ := ⟨_, rfl⟩
  rw [← hSe] at hS ⊢
  have HAT := hid (show ∀ k (h : k < l.length) (h' : k < S.size), S[k] = l[k] by subst hSe; exact fun k h _ => hat k h)
  clear hSe hat
  have hSle : S.size ≤ 1000000 := by omega
  go_enter Tryd.func24, Tryd.ntmps24
  go_wp2_with fail
  go_loop [5] (fun i => ∃ k : Nat, k ≤ S.size ∧ i = .int .i64 k ∧ ∀ j (h : j < l.length), j < k → isDig l[j] = true) (fun i => S.size - (intOf i).toNat)
  case atStart => exact ⟨0, Nat.zero_le _, rfl, fun j _ h => absurd h (by omega)⟩
  case round =>
    obtain ⟨k, hk, rfl, hall⟩ := hrel
    have HALL := hid hall
    clear hall
    by_cases hlt : k < S.size
    · have hkl : k < l.length := by omega
      have hSk := HAT.out k hkl hlt
      cases hd : isDig l[k]
      · have hno := isDig_no hd
        have hdn := hid (dn_eq l k HALL.out (by omega) (fun _ => hd))
        have hc : S[k].toNat < 48 ∨ 57 < S[k].toNat := by rw [hSk]; exact hno
        clear hno hd hSk hS
        rcases hc with h | h
        all_goals
          first
            | have h48 : decide ((S[k].toNat : Int) ≥ 48) = false := by simp; omega
            | (have h48 : decide ((S[k].toNat : Int) ≥ 48) = true := by simp; omega
               have h57 : decide ((S[k].toNat : Int) ≤ 57) = false := by simp; omega)
          go_wp2_with fail
          go_ret
          exact ⟨by rw [hdn.out]; rfl, rfl⟩
      · have hyes := isDig_yes hd
        have hall' := hid (show ∀ j (h : j < l.length), j < k + 1 → isDig l[j] = true from fun j h hj => by
          by_cases hjk : j < k
          · exact HALL.out j h hjk
          · obtain rfl : j = k := by omega
            exact hd)
        have hc : 48 ≤ S[k].toNat ∧ S[k].toNat ≤ 57 := by rw [hSk]; exact hyes
        obtain ⟨hc1, hc2⟩ := hc
        clear hyes hd hSk hS
        go_wp2_with fail
        go_round
        case rel => exact ⟨k + 1, by omega, by go_num, hall'.out⟩
        case measure => simp [intOf]; omega
    · obtain rfl : k = S.size := by omega
      have hdn := hid (dn_eq l S.size HALL.out (by omega) (fun h => absurd h (by omega)))
      clear hS
      go_wp2_with fail
      go_ret
      exact ⟨by rw [hdn.out]; rfl, rfl⟩

theorem val_take' (l : List UInt8) (i : Nat) (h : i < l.length) : val (l.take (i + 1)) = val (l.take i) * 10 + (l[i].toNat - 48) := by
  rw [List.take_succ_eq_append_getElem h, val_snoc]
theorem ten_b16 {x k : Nat} (h : x < 10 ^ k) (hk : k ≤ 1000000000) : x < B16 ^ 1000000000 := by
  have h2 : x < B16 ^ k := Nat.lt_of_lt_of_le h (Nat.pow_le_pow_left (by decide) k)
  revert hk
  generalize 1000000000 = b
  intro hk
  exact Nat.lt_of_lt_of_le h2 (Nat.pow_le_pow_right B16_pos hk)
theorem small_b {x : Nat} (h : x < 65536) : x < B16 ^ 1000000000 := by
  have h2 : x < B16 ^ 1 := by rw [Nat.pow_one]; exact h
  generalize hb : 1000000000 = b
  exact Nat.lt_of_lt_of_le h2 (Nat.pow_le_pow_right B16_pos (by omega))
theorem NatOf_z (z : Int) (w : World) (h0 : 0 ≤ z) (h1 : z < 18446744073709551616) :
    Calls Tryd.prog 28 #[.int .u64 z] w fun e w' => ∃ v, e = .returned v ∧ Rep B16 w' v z.toNat ∧ Below w.heap.size w w' := by
  obtain ⟨n, rfl⟩ : ∃ n : Nat, z = n := ⟨z.toNat, by omega⟩
  rw [Int.toNat_natCast]
  exact NatOf_any n w (by omega)

/-- The loop of natRead. -/
def NrRel (w0 : World) (l : List UInt8) (v iv : Value) (wr : World) : Prop :=
  ∃ i : Nat, i ≤ l.length ∧ iv = .int .i64 i ∧ Rep B16 wr v (val (l.take i)) ∧ Below w0.heap.size w0 wr

set_option maxHeartbeats 4000000 in
set_option maxRecDepth 100000 in
theorem natRead_any (l : List UInt8) (w : World) (hl : l.length ≤ 100000) (hd : ∀ c ∈ l, isDig c = true) :
    Calls Tryd.prog 27 #[str l] w fun e w' => ∃ v, e = .returned v ∧ Rep B16 w' v (val l) ∧ Below w.heap.size w w' := by
  have hS := str_size l
  have hat := str_at l
  unfold str
  obtain ⟨S, hSe⟩ : ∃ S : ByteArray, S = ⟨l.toArray⟩ := ⟨_, rfl⟩
  rw [← hSe] at hS ⊢
  have HAT := hid (show ∀ k (h : k < l.length) (h' : k < S.size), S[k] = l[k] by subst hSe; exact fun k h _ => hat k h)
  have HD := hid hd
  have HS := hid hS
  have hSle : S.size ≤ 100000 := by omega
  clear hSe hat hd hS hl
  go_enter Tryd.func27, Tryd.ntmps27
  go_wp2_with fail
  go_loopw [3, 7] (fun v i wr => NrRel w l v i wr) (fun _ i _ => S.size - (intOf i).toNat)
  case atStart => exact ⟨0, Nat.zero_le _, rfl, Rep.nil, Below.refl _ _⟩
  case round =>
    obtain ⟨i, hil, rfl, hN, hB⟩ := hrel
    have hil2 : i ≤ S.size := by rw [HS.out]; exact hil
    by_cases hlt : i < S.size
    · have hll : i < l.length := by rw [← HS.out]; exact hlt
      have hdg := isDig_yes (HD.out _ (List.getElem_mem hll))
      rw [← HAT.out i hll hlt] at hdg
      obtain ⟨hd1, hd2⟩ := hdg
      have hvt := val_take' l i hll
      rw [← HAT.out i hll hlt] at hvt
      have HX := hid (And.intro hN (And.intro hB hvt))
      clear hN hB hvt hil
      have hvb := hid (show val (l.take i) < B16 ^ 1000000000 by
        have h1 : val (l.take i) < 10 ^ l.length := by
          refine Nat.lt_of_lt_of_le (val_lt _ fun c hc => HD.out c (List.mem_of_mem_take hc)) (Nat.pow_le_pow_right (by decide) ?_)
          rw [List.length_take]; omega
        exact ten_b16 h1 (by rw [← HS.out]; omega))
      have hvb2 := hid (show val (l.take i) * 10 < B16 ^ 1000000000 by
        have h1 : val (l.take (i + 1)) < 10 ^ l.length := by
          refine Nat.lt_of_lt_of_le (val_lt _ fun c hc => HD.out c (List.mem_of_mem_take hc)) (Nat.pow_le_pow_right (by decide) ?_)
          rw [List.length_take]; omega
        exact ten_b16 (Nat.lt_of_le_of_lt (by rw [HX.out.2.2]; omega) h1) (by rw [← HS.out]; omega))
      have hw : IntKind.u8.wrap ((S[i].toNat : Int) - 48) = ((S[i].toNat - 48 : Nat) : Int) := by
        rw [IntKind.wrap_u8]; omega
      have hw2 : IntKind.u64.wrap ((S[i].toNat - 48 : Nat) : Int) = ((S[i].toNat - 48 : Nat) : Int) := by
        rw [IntKind.wrap_u64]; omega
      have hq10 : S[i].toNat - 48 < 10 := by omega
      go_upto_region 5 with fail
      go_region_with
        (first
          | (go_at_call 68; refine (NatAdd_any _ _ _ _ _ (hR2.below (by first | exact hB3 | assumption)) hR3 hvb2.out (small_b (by omega))).mono ?_; rintro e w4 ⟨v4, rfl, hR4, hB4⟩; have hK4 := held_any hK3 hB4)
          | (go_at_call 54; refine (NatMul_any _ _ (val (l.take i)) 10 _ (HX.out.1.below hK1) hR1 hvb.out (small_b (by omega))).mono ?_; rintro e w2 ⟨v2, rfl, hR2, hB2⟩; have hK2 := held_any hK1 hB2)
          | (go_at_call 28; have hzz := hR2; clear hzz; refine (NatOf_z _ _ (by omega) (by omega)).mono ?_; rintro e w3 ⟨v3, rfl, hR3, hB3⟩; have hK3 := held_any hK2 hB3)
          | (go_at_call 28; refine (NatOf_z _ _ (by decide) (by decide)).mono ?_; rintro e w1 ⟨v1, rfl, hR1, hB1⟩; have hK1 := held_any (by first | assumption | exact (Below.refl _ _).drew) hB1))
      all_goals
        rw [Int.toNat_natCast] at hR4
        rw [← HX.out.2.2] at hR4
        have HF := hid (And.intro hR4 (HX.out.2.1.trans (hK4.mono HX.out.2.1.size)))
        clear hR4 hR3 hR2 hR1 hB1 hB2 hB3 hB4 hK1 hK2 hK3 hK4 hw hw2
        go_wp2_with fail
        first
          | (go_roundw
             case rel => exact ⟨i + 1, by omega, by go_num, HF.out.1, HF.out.2⟩
             case measure => simp [intOf]; omega)
          | (refine ⟨⟨i + 1, by omega, by go_num, HF.out.1, HF.out.2⟩, ?_⟩
             simp [intOf]; omega)
    · have hie : i = l.length := by rw [← HS.out]; omega
      have hR := hid (And.intro (show Rep B16 wr u3 (val l) by rw [hie, List.take_length] at hN; exact hN) hB)
      clear hie hN hB hil
      go_wp2_with fail
      go_ret
      exact ⟨_, rfl, hR.out.1, hR.out.2⟩
end Go.Proofs.YtjnfnngobkjneaaDoor
