/- Texts of numbers of the program: ratio. -/
import Derived.Test.YtjnfnngobkjneaaGreatDoorPrsQ
import Derived.Test.YtjnfnngobkjneaaGreatDoorPowA
import Derived.Test.YtjnfnngobkjneaaGreatDoorStrD
namespace Go.Proofs.YtjnfnngobkjneaaGreatDoor
open Go.RowKit Dg Dc Go.Shelf

theorem and_one2 : ∀ m : Fin 2048, bits BinOp.and IntKind.i64 ((m.val : Nat) : Int) 1 = ((m.val % 2 : Nat) : Int) := by decide +kernel
theorem bit_one2 {n t : Nat} (hn : n < 2048) : (bits BinOp.and IntKind.i64 ((n : Int) / 2 ^ t) 1 == 1) = decide (n / 2 ^ t % 2 = 1) := by
  have e : ((n : Int) / 2 ^ t) = ((n / 2 ^ t : Nat) : Int) := by push_cast; rfl
  have hlt : n / 2 ^ t < 2048 := Nat.lt_of_le_of_lt (Nat.div_le_self _ _) hn
  rw [e, and_one2 ⟨n / 2 ^ t, hlt⟩]
  simp only
  by_cases h : n / 2 ^ t % 2 = 1
  · rw [h]; rfl
  · have h0 : n / 2 ^ t % 2 = 0 := by omega
    rw [h0]; rfl

theorem Len64_k (x : Nat) (w : World) (hx : x < 18446744073709551616) :
    Calls Tryz.prog 137 #[.int .u64 x] w fun e w' => e = .returned (.int .i64 (Lib.bitLen x)) ∧ w = w' :=
  (Any.bits_Len64 { shDigits with } (x : Int) w (by omega) (by omega)).mono fun _ _ h => ⟨by rw [h.1]; rfl, h.2.symm⟩
set_option maxHeartbeats 1000000 in
set_option maxRecDepth 100000 in
theorem Len_k (x : Nat) (w : World) (hx : x < 18446744073709551616) :
    Calls Tryz.prog 117 #[.int .u64 x] w fun e w' => e = .returned (.int .i64 (Lib.bitLen x)) ∧ w = w' := by
  have hc := Len64_k x w hx
  generalize Lib.bitLen x = b at *
  go_enter Tryz.func117, Tryz.ntmps117
  go_wp2_with fail
  refine hc.mono ?_
  rintro e w' ⟨rfl, rfl⟩
  go_wp2_with fail
  go_ret
  exact ⟨rfl, rfl⟩

theorem pow_Wk {x A m : Nat} (hx : x < W32 ^ A) (hA : A ≤ 100) (hm : m ≤ 2048) : x ^ m < W32 ^ 300000 := by
  have h := pow_W (m := m) hx
  have hk : A * m + 1 ≤ 300000 := by have : A * m ≤ 100 * 2048 := Nat.mul_le_mul hA hm; omega
  revert hk
  generalize 300000 = k
  intro hk
  exact lt_pow h hk

set_option maxHeartbeats 4000000 in
set_option maxRecDepth 100000 in
theorem Pow_k (va : Value) (x n A : Nat) (w : World) (ha : Rep W32 w va x) (hx : x < W32 ^ A) (hA : A ≤ 100) (hn : n < 2048) :
    Calls Tryz.prog 82 #[va, .int .i64 n] w fun e w' => ∃ v, e = .returned v ∧ Rep W32 w' v (x ^ n) ∧ Below w.heap.size w w' := by
  have HA := hid ha
  have HX := hid (And.intro hx hA)
  have HOf := hid (FromUint_any 1 w (by decide))
  have hl := bitLen_len 11 n (by omega) (by omega)
  have HLn := hid (fun W => Len_k n W (by omega))
  obtain ⟨b, hb⟩ : ∃ b, b = Lib.bitLen n := ⟨_, rfl⟩
  rw [← hb] at hl HLn
  have hb64 : b ≤ 11 := hl.le (by omega) (by omega)
  have HL := hid hl.1
  clear ha hx hA hb hl
  go_enter Tryz.func82, Tryz.ntmps82
  go_wp2_with fail
  refine HOf.out.mono ?_
  rintro e w1 ⟨v1, rfl, hR1, hB1⟩
  clear HOf
  go_wp2_with fail
  refine (HLn.out w1).mono ?_
  rintro e w' ⟨rfl, rfl⟩
  clear HLn
  go_wp2_with fail
  go_loopw [5, 6] (fun v i wr => ∃ k : Nat, k ≤ b ∧ i = .int .i64 ((k : Int) - 1) ∧ Rep W32 wr v (x ^ (n / 2 ^ k)) ∧ Below w.heap.size w wr) (fun _ i _ => (intOf i + 1).toNat)
  case atStart => exact ⟨b, Nat.le_refl _, rfl, by rw [Nat.div_eq_of_lt HL.out, Nat.pow_zero]; exact hR1, hB1⟩
  case round =>
    obtain ⟨k, hk, rfl, hR, hB⟩ := hrel
    rcases Nat.eq_zero_or_pos k with h0 | h0
    · subst h0
      rw [Nat.pow_zero, Nat.div_one] at hR
      have HR := hid (And.intro hR hB)
      clear hR hB hR1 hB1
      go_wp2_with fail
      go_ret
      exact ⟨_, rfl, HR.out.1, HR.out.2⟩
    · obtain ⟨t, rfl⟩ : ∃ t, k = t + 1 := ⟨k - 1, by omega⟩
      have e1 : ((t + 1 : Nat) : Int) - 1 = t := by omega
      rw [e1]
      clear e1
      have hm : n / 2 ^ (t + 1) ≤ 2048 := Nat.le_trans (Nat.div_le_self _ _) (by omega)
      have HM1 := hid (Mul_any u5 u5 _ _ wr hR hR (lt_big (pow_Wk HX.out.1 HX.out.2 hm) (by omega)) (lt_big (pow_Wk HX.out.1 HX.out.2 hm) (by omega)))
      have HS := hid (pow_step x n t)
      have HB := hid hB
      clear hR hB hR1 hB1 hm
      by_cases hb1 : n / 2 ^ t % 2 = 1
      · have hbit : (bits BinOp.and IntKind.i64 ((n : Int) / 2 ^ t) 1 == 1) = true := (bit_one2 hn).trans (decide_eq_true hb1)
        have hst := HS.out
        rw [hb1, Nat.pow_one] at hst
        have HST := hid hst
        have hq : n / 2 ^ (t + 1) * 2 ≤ 2048 := by
          rw [Nat.pow_succ, ← Nat.div_div_eq_div_mul]
          have := Nat.div_le_self n (2 ^ t)
          omega
        have HQ := hid (pow_Wk (m := n / 2 ^ (t + 1) * 2) HX.out.1 HX.out.2 hq)
        rw [Nat.pow_mul, Nat.pow_two] at HQ
        clear hst hb1 hq HS
        go_wp2_with fail
        refine HM1.out.mono ?_
        rintro e w2 ⟨v2, rfl, hR2, hB2⟩
        go_wp2_with fail
        refine (Mul_any v2 va _ x w2 hR2 (HA.out.below (HB.out.trans (hB2.mono HB.out.size))) (lt_big HQ.out (by omega)) (lt_big HX.out.1 (by have := HX.out.2; omega))).mono ?_
        rintro e w3 ⟨v3, rfl, hR3, hB3⟩
        rw [← HST.out] at hR3
        have HR3 := hid (And.intro hR3 (HB.out.trans ((held_any hB2 hB3).mono HB.out.size)))
        clear hR3 hR2 hB2 hB3
        go_wp2_with fail
        go_roundw
        case rel => exact ⟨t, by omega, rfl, HR3.out.1, HR3.out.2⟩
        case measure => simp [intOf]
      · have hbit : (bits BinOp.and IntKind.i64 ((n : Int) / 2 ^ t) 1 == 1) = false := (bit_one2 hn).trans (decide_eq_false hb1)
        have hst := HS.out
        rw [show n / 2 ^ t % 2 = 0 by omega, Nat.pow_zero, Nat.mul_one] at hst
        have HST := hid hst
        clear hst hb1 HS
        go_wp2_with fail
        refine HM1.out.mono ?_
        rintro e w2 ⟨v2, rfl, hR2, hB2⟩
        rw [← HST.out] at hR2
        have HR2 := hid (And.intro hR2 (HB.out.trans (hB2.mono HB.out.size)))
        clear hR2 hB2
        go_wp2_with fail
        go_roundw
        case rel => exact ⟨t, by omega, rfl, HR2.out.1, HR2.out.2⟩
        case measure => simp [intOf]

theorem str_toList (l : List UInt8) : (⟨l.toArray⟩ : ByteArray).toList = l := by rw [Lib.toList_data]
theorem cutDigits_s (l : List UInt8) (w : World) (hl : l.length ≤ 1000000) :
    Calls Tryz.prog 80 #[str l] w fun e w' => ∃ W R : ByteArray, e = .returned (.tuple #[.string W, .string R]) ∧ Hid (W = ⟨(l.take (dn l)).toArray⟩ ∧ R = ⟨(l.drop (dn l)).toArray⟩) ∧ ∃ q, w' = w.drewN q :=
  (cutDigits_any l w hl).mono fun _ _ h => ⟨_, _, h.1, hid ⟨rfl, rfl⟩, h.2⟩
theorem below_drew (w : World) (q : Nat) : Below w.heap.size w (w.drewN q) := below_drewN (Below.refl _ _) q

theorem FromDecimal_s (W : ByteArray) (l : List UInt8) (w : World) (h : W = ⟨l.toArray⟩) (hl : l.length ≤ 1000000) (hd : ∀ c ∈ l, isDig c = true) :
    Calls Tryz.prog 81 #[.string W] w fun e w' => ∃ v, e = .returned v ∧ Rep W32 w' v (val l) ∧ Below w.heap.size w w' := by
  subst h
  exact FromDecimal_any l w hl hd
theorem toList_nil {l : List UInt8} : ((⟨l.toArray⟩ : ByteArray).toList == []) = decide (l = []) := by
  rw [str_toList]
  cases l <;> rfl
theorem rat_bad {l : List UInt8} {c : UInt8} {m : List UInt8} (h0 : dn l ≠ 0) (hdr : l.drop (dn l) = c :: m) (h : m = [] ∨ dn m ≠ m.length) : rat l = none := by
  unfold rat; rw [if_neg h0, hdr]; exact if_pos h
theorem rat_good {l : List UInt8} {c : UInt8} {m : List UInt8} (h0 : dn l ≠ 0) (hdr : l.drop (dn l) = c :: m) (h : ¬ (m = [] ∨ dn m ≠ m.length)) :
    rat l = if c = 46 then some (val (l.take (dn l) ++ m), 10 ^ m.length) else if c = 47 then some (val (l.take (dn l)), val m) else none := by
  unfold rat; rw [if_neg h0, hdr]; exact if_neg h

/-- What ratio gives back. -/
def RatRes (w w' : World) (e : Ending) (l : List UInt8) : Prop :=
  Below w.heap.size w w' ∧ ((rat l = none ∧ e = .returned (.tuple #[.slice none 0 0, .slice none 0 0, .bool false])) ∨
    ∃ n d vn vd, rat l = some (n, d) ∧ e = .returned (.tuple #[vn, vd, .bool true]) ∧ Rep W32 w' vn n ∧ Rep W32 w' vd d)

theorem ratio_ret {W : World} {x y z : Value} {tm : Array Value} {R : Ending → World → Prop} (h2 : tm[2]?.getD undef = x) (h3 : tm[3]?.getD undef = y) (h4 : tm[4]?.getD undef = z) (hR : R (.returned (.tuple #[x, y, z])) W) :
    bodyPost Tryz.prog Tryz.f38 R .ret { tmps := tm, defers := [] } W :=
  bodyPost_ret (v := .tuple #[x, y, z]) (by simp [results, Tryz.results38, go_sem, h2, h3, h4]) rfl hR

set_option maxHeartbeats 4000000 in
set_option maxRecDepth 100000 in
theorem ratio_any (l : List UInt8) (w : World) (hl : l.length ≤ 1240) :
    Calls Tryz.prog 38 #[str l] w fun e w' => RatRes w w' e l := by
  have hc := cutDigits_s l w (by omega)
  have hle := dn_le l
  unfold str at *
  obtain ⟨S, hSe⟩ : ∃ S : ByteArray, S = ⟨l.toArray⟩ := ⟨_, rfl⟩
  rw [← hSe] at hc ⊢
  clear hSe
  go_enter Tryz.func38, Tryz.ntmps38
  go_wp2_with fail
  refine hc.mono ?_
  clear hc
  rintro e w1 ⟨W, R, rfl, HWR, q1, rfl⟩
  by_cases h0 : dn l = 0
  · have hr := hid (show rat l = none by unfold rat; rw [if_pos h0])
    have hW : W.toList = [] := by rw [HWR.out.1, str_toList, h0]; rfl
    clear h0
    go_wp2_with fail
    exact ratio_ret rfl rfl rfl ⟨below_drew _ _, .inl ⟨hr.out, rfl⟩⟩
  · have htl : (l.take (dn l)).length = dn l := List.length_take_of_le hle
    have hW : (W.toList == []) = false := by
      rw [HWR.out.1, toList_nil, decide_eq_false_iff_not]
      intro hh
      rw [hh] at htl
      exact h0 htl.symm
    have hWd := hid (take_dn_dig l)
    have hWl : (l.take (dn l)).length ≤ 1240 := by omega
    cases hdr : l.drop (dn l) with
    | nil =>
      have hr := hid (show rat l = some (val (l.take (dn l)), 1) by unfold rat; rw [if_neg h0, hdr])
      have hR : R.toList = [] := by rw [HWR.out.2, str_toList, hdr]
      have hF := FromDecimal_s W _ (w.drewN q1) HWR.out.1 (by omega) hWd.out
      clear h0 hdr htl hWl
      go_wp2_with fail
      refine hF.mono ?_
      clear hF
      rintro e w2 ⟨v2, rfl, hv2, hB2⟩
      have HV := hid (And.intro hv2 ((below_drew w q1).trans (hB2.mono (below_drew w q1).size)))
      clear hv2 hB2
      go_wp2_with fail
      refine (FromUint_z _ _ (by omega) (by omega)).mono ?_
      rintro e w3 ⟨v3, rfl, hv3, hB3⟩
      have HV3 := hid (And.intro hv3 hB3)
      clear hv3 hB3
      go_wp2_with fail
      exact ratio_ret rfl rfl rfl ⟨HV.out.2.trans (HV3.out.2.mono HV.out.2.size), .inr ⟨_, _, _, _, hr.out, rfl, HV.out.1.below HV3.out.2, HV3.out.1⟩⟩
    | cons c m =>
      have hR : (R.toList == []) = false := by rw [HWR.out.2, toList_nil, hdr]; rfl
      have hml : l.length = dn l + (m.length + 1) := by
        have h1 := congrArg List.length hdr
        rw [List.length_drop, List.length_cons] at h1
        omega
      have hRs : R.size = m.length + 1 := by rw [HWR.out.2, hdr, str_size, List.length_cons]
      have hRs1 : 0 < R.size := by omega
      have hRs2 : (1 : Int) ≤ (R.size : Int) := by omega
      have hD : R.extract 1 R.size = ⟨m.toArray⟩ := by rw [Lib.Pa.extract_from, HWR.out.2, hdr]; rfl
      have hc2 := cutDigits_s m (w.drewN q1) (by omega)
      unfold str at hc2
      rw [← hD] at hc2
      have hRc : R[0].toNat = c.toNat := by
        have h1 : R[0] = c := by
          have hh := HWR.out.2
          rw [hdr] at hh
          subst hh
          rfl
        rw [h1]
      have HD := hid (And.intro hD hdr)
      have hmle := dn_le m
      have hm1 : m.length ≤ 1240 := by omega
      have hW1 : W.size ≤ 1240 := by rw [HWR.out.1, str_size]; exact hWl
      have HL := hid (And.intro hml hRs)
      clear hD hdr htl hRs hml
      go_wp2_with fail
      refine hc2.mono ?_
      clear hc2
      rintro e w2 ⟨W2, R2, rfl, HWR2, q2, rfl⟩
      by_cases hbad : m = [] ∨ dn m ≠ m.length
      · have hr := hid (rat_bad h0 HD.out.2 hbad)
        have hcase : W2.toList = [] ∨ ((W2.toList == []) = false ∧ (R2.toList == []) = false) := by
          by_cases hz : dn m = 0
          · exact .inl (by rw [HWR2.out.1, str_toList, hz]; rfl)
          · refine .inr ⟨?_, ?_⟩
            · rw [HWR2.out.1, toList_nil, decide_eq_false_iff_not]
              intro hh
              have h1 := List.length_take_of_le hmle
              rw [hh] at h1
              exact hz h1.symm
            · rw [HWR2.out.2, toList_nil, decide_eq_false_iff_not]
              intro hh
              have h1 := congrArg List.length hh
              rw [List.length_drop, List.length_nil] at h1
              rcases hbad with h2 | h2
              · subst h2; exact hz rfl
              · omega
        clear hbad h0
        rcases hcase with hz | ⟨hz1, hz2⟩
        all_goals
          go_wp2_with fail
          exact ratio_ret rfl rfl rfl ⟨below_drew _ _, .inl ⟨hr.out, rfl⟩⟩
      · have hr := hid (rat_good h0 HD.out.2 hbad)
        have hdm : dn m = m.length := by
          rcases Nat.decEq (dn m) m.length with h | h
          · exact absurd (.inr h) hbad
          · exact h
        have hmn : m ≠ [] := fun h => hbad (.inl h)
        have hm2 : W2 = ⟨m.toArray⟩ := by rw [HWR2.out.1, hdm, List.take_length]
        have hz1 : (W2.toList == []) = false := by rw [hm2, toList_nil, decide_eq_false hmn]
        have hz2 : R2.toList = [] := by rw [HWR2.out.2, hdm, List.drop_length, str_toList]
        have hW2s : W2.size ≤ 1240 := by rw [hm2, str_size]; exact hm1
        have hWe := hid (And.intro hm2 (And.intro (all_of_dn hdm) (show W2.size = m.length by rw [hm2, str_size])))
        clear hbad h0 hdm hmn hm2 hmle
        by_cases h46 : c = 46
        · have hb : ((R[0].toNat : Int) == 46) = true := by rw [hRc, h46]; rfl
          have hr2 := hid (show rat l = some (val (l.take (dn l) ++ m), 10 ^ m.length) by rw [hr.out, if_pos h46])
          clear h46 hRc
          have hF := FromDecimal_s (W ++ W2) (l.take (dn l) ++ m) (w.drewN (q1 + q2)) (by rw [HWR.out.1, hWe.out.1, str_append]) (by rw [List.length_append]; omega) (fun x hx => by
            rcases List.mem_append.1 hx with h1 | h1
            · exact hWd.out x h1
            · exact hWe.out.2.1 x h1)
          go_wp2_with fail
          refine hF.mono ?_
          clear hF
          rintro e w3 ⟨v3, rfl, hv3, hB3⟩
          have HV := hid (And.intro hv3 ((below_drew w (q1 + q2)).trans (hB3.mono (below_drew w (q1 + q2)).size)))
          clear hv3 hB3
          go_wp2_with fail
          refine (FromUint_z _ _ (by omega) (by omega)).mono ?_
          rintro e w4 ⟨v4, rfl, hv4, hB4⟩
          have hP := Pow_k v4 _ W2.size 1 w4 hv4 (by decide) (by omega) (by omega)
          have HV4 := hid (And.intro (HV.out.1.below hB4) (HV.out.2.trans (hB4.mono HV.out.2.size)))
          clear hv4 hB4
          go_wp2_with fail
          refine hP.mono ?_
          clear hP
          rintro e w5 ⟨v5, rfl, hv5, hB5⟩
          have HV5 := hid (And.intro (HV4.out.1.below hB5) (And.intro (HV4.out.2.trans (hB5.mono HV4.out.2.size)) hv5))
          clear hv5 hB5
          go_wp2_with fail
          exact ratio_ret rfl rfl rfl ⟨HV5.out.2.1, .inr ⟨_, _, _, _, hr2.out, rfl, HV5.out.1, by rw [← hWe.out.2.2]; exact HV5.out.2.2⟩⟩
        · have hb : ((R[0].toNat : Int) == 46) = false := by
            rw [hRc]
            simp
            intro h
            exact h46 (UInt8.toNat_inj.1 (by show c.toNat = 46; omega))
          by_cases h47 : c = 47
          · have hb2 : ((R[0].toNat : Int) == 47) = true := by rw [hRc, h47]; rfl
            have hr2 := hid (show rat l = some (val (l.take (dn l)), val m) by rw [hr.out, if_neg h46, if_pos h47])
            have hF := FromDecimal_s W _ (w.drewN (q1 + q2)) HWR.out.1 (by omega) hWd.out
            clear h46 h47 hRc
            go_wp2_with fail
            refine hF.mono ?_
            clear hF
            rintro e w3 ⟨v3, rfl, hv3, hB3⟩
            have HV := hid (And.intro hv3 ((below_drew w (q1 + q2)).trans (hB3.mono (below_drew w (q1 + q2)).size)))
            have hF := FromDecimal_s W2 m w3 hWe.out.1 (by omega) hWe.out.2.1
            clear hv3 hB3
            go_wp2_with fail
            refine hF.mono ?_
            clear hF
            rintro e w4 ⟨v4, rfl, hv4, hB4⟩
            have HV4 := hid (And.intro (HV.out.1.below hB4) (And.intro (HV.out.2.trans (hB4.mono HV.out.2.size)) hv4))
            clear hv4 hB4
            go_wp2_with fail
            exact ratio_ret rfl rfl rfl ⟨HV4.out.2.1, .inr ⟨_, _, _, _, hr2.out, rfl, HV4.out.1, HV4.out.2.2⟩⟩
          · have hb2 : ((R[0].toNat : Int) == 47) = false := by
              rw [hRc]
              simp
              intro h
              exact h47 (UInt8.toNat_inj.1 (by show c.toNat = 47; omega))
            have hr2 := hid (show rat l = none by rw [hr.out, if_neg h46, if_neg h47])
            clear h46 h47 hRc
            go_wp2_with fail
            exact ratio_ret rfl rfl rfl ⟨below_drew _ _, .inl ⟨hr2.out, rfl⟩⟩
end Go.Proofs.YtjnfnngobkjneaaGreatDoor
