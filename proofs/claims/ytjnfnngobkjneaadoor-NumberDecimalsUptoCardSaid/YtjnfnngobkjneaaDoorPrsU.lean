/- Texts of numbers of the specification: Parse. -/
import Derived.Test.YtjnfnngobkjneaaDoorPrsS
import Derived.Test.YtjnfnngobkjneaaDoorPrsT
import Derived.Test.YtjnfnngobkjneaaDoorRefY
namespace Go.Proofs.YtjnfnngobkjneaaDoor
open Go.RowKit Dg Dc

theorem pow_Bk {x A m : Nat} (hx : x < B16 ^ A) (hA : A ≤ 100) (hm : m ≤ 2048) : x ^ m < B16 ^ 300000 := by
  have h1 : x ^ m ≤ (B16 ^ A) ^ m := Nat.pow_le_pow_left (Nat.le_of_lt hx) m
  rw [← Nat.pow_mul] at h1
  have h2 := Nat.lt_of_le_of_lt h1 (Nat.pow_lt_pow_right (a := B16) (by decide) (Nat.lt_succ_self _))
  have hk : A * m + 1 ≤ 300000 := by have : A * m ≤ 100 * 2048 := Nat.mul_le_mul hA hm; omega
  revert hk
  generalize 300000 = k
  intro hk
  exact Nat.lt_of_lt_of_le h2 (Nat.pow_le_pow_right B16_pos hk)

set_option maxHeartbeats 4000000 in
set_option maxRecDepth 100000 in
theorem NatPow_k (va : Value) (x n A : Nat) (w : World) (ha : Rep B16 w va x) (hx : x < B16 ^ A) (hA : A ≤ 100) (hn : n < 2048) :
    Calls Tryd.prog 29 #[va, .int .i64 n] w fun e w' => ∃ v, e = .returned v ∧ Rep B16 w' v (x ^ n) ∧ Below w.heap.size w w' := by
  have HA := hid ha
  have HX := hid (And.intro hx hA)
  have HOf := hid (NatOf_any 1 w (by decide))
  clear ha hx hA
  go_enter Tryd.func29, Tryd.ntmps29
  go_wp2_with fail
  refine HOf.out.mono ?_
  rintro e w1 ⟨v1, rfl, hR1, hB1⟩
  clear HOf
  go_wp2_with fail
  go_loopw [5, 8] (fun v i wr => ∃ k : Nat, k ≤ n ∧ i = .int .i64 (k : Int) ∧ Rep B16 wr v (x ^ k) ∧ Below w.heap.size w wr) (fun _ i _ => n - (intOf i).toNat)
  case atStart => exact ⟨0, Nat.zero_le _, rfl, by rw [Nat.pow_zero]; exact hR1, hB1⟩
  case round =>
    obtain ⟨k, hk, rfl, hR, hB⟩ := hrel
    by_cases hlt : k < n
    · have HM := hid (NatMul_any u5 va (x ^ k) x wr hR (HA.out.below hB) (b_big (pow_Bk HX.out.1 HX.out.2 (show k ≤ 2048 by omega)) (by omega)) (b_big HX.out.1 (by have := HX.out.2; omega)))
      have HB := hid hB
      clear hR hB hR1 hB1
      go_wp2_with fail
      refine HM.out.mono ?_
      rintro e w2 ⟨v2, rfl, hR2, hB2⟩
      rw [← Nat.pow_succ] at hR2
      have HR2 := hid (And.intro hR2 (HB.out.trans (hB2.mono HB.out.size)))
      clear hR2 hB2
      go_wp2_with fail
      go_roundw
      case rel => exact ⟨k + 1, by omega, by go_num, HR2.out.1, HR2.out.2⟩
      case measure => simp [intOf]; omega
    · obtain rfl : k = n := by omega
      have HR := hid (And.intro hR hB)
      clear hR hB hR1 hB1
      go_wp2_with fail
      go_ret
      exact ⟨_, rfl, HR.out.1, HR.out.2⟩

theorem run_z (S : ByteArray) (l : List UInt8) (w : World) (h : S = ⟨l.toArray⟩) (hl : l.length ≤ 1000000) :
    Calls Tryd.prog 24 #[.string S, .int .i64 0] w fun e w' => e = .returned (.int .i64 (dn l)) ∧ w = w' := by
  subst h
  exact run_any l w hl
theorem natRead_s (W : ByteArray) (l : List UInt8) (w : World) (h : W = ⟨l.toArray⟩) (hl : l.length ≤ 100000) (hd : ∀ c ∈ l, isDig c = true) :
    Calls Tryd.prog 27 #[.string W] w fun e w' => ∃ v, e = .returned v ∧ Rep B16 w' v (val l) ∧ Below w.heap.size w w' := by
  subst h
  exact natRead_any l w hl hd

theorem cut_lo_s {X : ByteArray} {b : List UInt8} (h : X = ⟨b.toArray⟩) (k : Nat) (hk : k ≤ b.length) (w : World) : (Instr.slice 9 (.string X) none (some (.int .i64 (k : Int))) none).run Tryd.prog w = .ok (.string ⟨(b.take k).toArray⟩) w := by
  subst h
  exact cut_lo b k hk w
theorem cut_hi_s {X : ByteArray} {b : List UInt8} (h : X = ⟨b.toArray⟩) (k : Nat) (hk : k ≤ b.length) (w : World) : (Instr.slice 9 (.string X) (some (.int .i64 (k : Int))) none none).run Tryd.prog w = .ok (.string ⟨(b.drop k).toArray⟩) w := by
  subst h
  exact cut_hi b k hk w
theorem done_fr {vn : Value} {nb : Bool} {n d : Nat} {W : World} (h : QNorm W vn (frac nb n d)) (hd : 0 < d) :
    Calls Tryd.prog 25 #[vn] W fun e w' => Below W.heap.size W w' ∧ URF w' e (if big (frac nb n d).2.1 (frac nb n d).2.2 then 1 else 0) (resT (if big (frac nb n d).2.1 (frac nb n d).2.2 then 1 else 0) (frac nb n d)) :=
  Done_any vn (frac nb n d) W h (frac_pos hd) (fun hz => frac_zero_sign hd hz)
theorem le_powB {x a k : Nat} (h : x < B16 ^ a) (ha : a ≤ k) : x < B16 ^ k := Nat.lt_of_lt_of_le h (Nat.pow_le_pow_right B16_pos ha)
theorem ten_b8 {x k : Nat} (h : x < 10 ^ k) : x < B16 ^ k := Nat.lt_of_lt_of_le h (Nat.pow_le_pow_left (by decide) k)
theorem rParse_ret {W : World} {B : Nat} {x y z ev : Value} {tm : Array Value} {R : Ending → World → Prop} (h2 : tm[2]?.getD undef = .pointer (some ⟨B, 0, none⟩)) (h3 : tm[3]?.getD undef = ev) (hV : Var3 W B x y z)
    (hR : R (.returned (.tuple #[.agg #[x, y, z], ev])) W) : bodyPost Tryd.prog Tryd.f7 R .ret { tmps := tm, defers := [] } W := by
  obtain ⟨c0, c1, c2, _, _, _⟩ := hV.cells
  exact bodyPost_ret (v := .tuple #[.agg #[x, y, z], ev]) (by simp [results, Tryd.results7, go_sem, h2, h3, c0, c1, c2]) rfl hR

theorem eq_byte (c : UInt8) (k : Nat) (hk : k < 256) : ((c.toNat : Int) == (k : Int)) = decide (c = UInt8.ofNat k) ∧ ((c.toNat : Int) != (k : Int)) = !decide (c = UInt8.ofNat k) := by
  have h : ((c.toNat : Int) == (k : Int)) = decide (c = UInt8.ofNat k) := by
    rw [Bool.eq_iff_iff, beq_iff_eq, decide_eq_true_eq]
    constructor
    · intro h
      apply UInt8.toNat_inj.1
      rw [UInt8.toNat_ofNat']
      omega
    · intro h
      rw [h, UInt8.toNat_ofNat']
      omega
  exact ⟨h, by rw [bne, h]⟩

set_option maxHeartbeats 8000000 in
set_option maxRecDepth 100000 in
theorem rParse_any (l : List UInt8) (w : World) :
    Calls Tryd.prog 7 #[str l] w fun e w' => Below w.heap.size w w' ∧ URF w' e (tcode l) (resT (tcode l) (ttrip l)) := by
  have hS := str_size l
  unfold str
  obtain ⟨S, hSe⟩ : ∃ S : ByteArray, S = ⟨l.toArray⟩ := ⟨_, rfl⟩
  rw [← hSe] at hS ⊢
  have HV := hid (Var3.alloc w (x := .bool false) (y := .slice none 0 0) (z := .slice none 0 0) 24 trivial trivial trivial)
  have hal := (Below.refl w.heap.size w).alloc (Nat.le_refl _) (.cells #[.bool false, .slice none 0 0, .slice none 0 0] 24)
  have HB := hid hal
  clear hal
  obtain ⟨pc, hpc⟩ : ∃ c, c = tcode l := ⟨_, rfl⟩
  obtain ⟨pt, hpt⟩ : ∃ c, c = ttrip l := ⟨_, rfl⟩
  rw [← hpc, ← hpt]
  by_cases hlong : 1240 < l.length
  · have h4 := hpc.trans (tcode_long hlong)
    subst h4
    have hg : decide ((S.size : Int) > 1240) = true := by simp; omega
    clear hpc hpt hS hlong hSe
    go_enter Tryd.func7, Tryd.ntmps7
    go_upto_region 1 with fail
    generalize w.alloc (.cells #[.bool false, .slice none 0 0, .slice none 0 0] 24) = W0 at *
    obtain ⟨x0, x1, x2, y0, y1, y2⟩ := HV.out.cells
    go_wp2_with fail
    exact rParse_ret rfl rfl (HV.out.store trivial trivial trivial) ⟨below_set3 HB.out (Nat.le_refl _), URF_err (by decide)⟩
  · have hg : decide ((S.size : Int) > 1240) = false := by simp; omega
    have hSle : S.size ≤ 1240 := by omega
    have hbl := body_le l
    have hblen : (body l).length ≤ 1240 := by omega
    have hcase : (decide (0 < S.size) = false ∧ body l = l ∧ neg? l = false) ∨ (∃ h0 : 0 < S.size, (((S[0].toNat : Int) == 45) = false ∧ body l = l ∧ neg? l = false) ∨ (((S[0].toNat : Int) == 45) = true ∧ S.extract 1 S.size = ⟨(body l).toArray⟩ ∧ neg? l = true)) := by
      cases l with
      | nil => exact .inl ⟨by rw [hS]; rfl, rfl, rfl⟩
      | cons c r =>
        refine .inr ⟨by rw [hS, List.length_cons]; omega, ?_⟩
        have hc : S[0]'(by rw [hS, List.length_cons]; omega) = c := by subst hSe; rfl
        have hE := (eq_byte c 45 (by decide)).1
        rw [hc]
        by_cases h : c = 45
        · refine .inr ⟨by rw [h]; rfl, ?_, by rw [neg_cons, h]; rfl⟩
          rw [Lib.Pa.extract_from, hSe, body, if_pos (by rw [neg_cons, h]; rfl)]
        · have hn : neg? (c :: r) = false := by rw [neg_cons]; simpa using h
          refine .inl ⟨?_, by rw [body, hn]; rfl, hn⟩
          rw [show (45 : Int) = ((45 : Nat) : Int) from rfl, hE]
          exact decide_eq_false h
    go_enter Tryd.func7, Tryd.ntmps7
    go_upto_region 1 with fail
    generalize w.alloc (.cells #[.bool false, .slice none 0 0, .slice none 0 0] 24) = W0 at *
    have HP := hid (And.intro hpc (And.intro hpt (And.intro hlong hSe)))
    clear hpc hpt hlong hbl hS hSe
    rcases hcase with ⟨h1, h2, h3⟩ | ⟨h0, ⟨h1, h2, h3⟩ | ⟨h1, h2, h3⟩⟩
    all_goals
      have HB2 := hid (And.intro h2 h3)
      clear h2 h3
      first
        | have h00 : (1 : Int) ≤ (S.size : Int) := by omega
        | skip
      go_upto_region 6 with fail
      first
        | (have hBe : S.extract 1 S.size = ⟨(body l).toArray⟩ := HB2.out.1
           generalize S.extract 1 S.size = Bd at *
           have HBd := hid hBe
           clear hBe)
        | (have HBd := hid (show S = ⟨(body l).toArray⟩ by rw [HB2.out.1]; exact HP.out.2.2.2))
      have HNg := hid HB2.out.2
      have hle := dn_le (body l)
      have hR1 := hid (fun W => run_z _ (body l) W HBd.out (by omega))
      have HLO := hid (cut_lo_s HBd.out (dn (body l)) hle)
      have HHI := hid (cut_hi_s HBd.out (dn (body l)) hle)
      have hrat := hid (show ∀ x, x = rat (body l) → x = rat (body l) from fun _ h => h)
      obtain ⟨b, hb⟩ : ∃ b, b = body l := ⟨_, rfl⟩
      rw [← hb] at hle hR1 HLO HHI hblen
      have HP2 := hid (And.intro HP.out.1 (And.intro HP.out.2.1 (And.intro HP.out.2.2.1 hb)))
      clear hb hrat HBd HB2 HP
      obtain ⟨k, hk⟩ : ∃ k, k = dn b := ⟨_, rfl⟩
      rw [← hk] at hle hR1 HLO HHI
      have HK := hid hk
      clear hk
      obtain ⟨x0, x1, x2, y0, y1, y2⟩ := HV.out.cells
      go_wp2_with fail
      refine (hR1.out _).mono ?_
      rintro e w1 ⟨rfl, rfl⟩
      clear hR1
      by_cases hk0 : k = 0
      · have h3 := HP2.out.1.trans (tcode_none HP2.out.2.2.1 (by rw [← HP2.out.2.2.2]; unfold rat; rw [← HK.out, if_pos hk0]))
        subst h3 hk0
        go_wp2_with fail
        exact rParse_ret rfl rfl (HV.out.store trivial trivial trivial) ⟨below_set3 HB.out (Nat.le_refl _), URF_err (by decide)⟩
      · have hkz : ((k : Int) == 0) = false := by simpa using hk0
        obtain ⟨W, hW⟩ : ∃ W : ByteArray, W = ⟨(b.take k).toArray⟩ := ⟨_, rfl⟩
        obtain ⟨R, hR⟩ : ∃ R : ByteArray, R = ⟨(b.drop k).toArray⟩ := ⟨_, rfl⟩
        have hlo := HLO.out
        have hhi := HHI.out
        rw [← hW] at hlo
        rw [← hR] at hhi
        have HWR := hid (And.intro hW hR)
        have HK0 := hid hk0
        clear hW hR HLO HHI hk0
        go_upto_region 9 with fail
        go_quiet (fail)
        clear hlo hhi hkz
        replace HB := hid (HB.out.trans ((below_drew W0 nq).mono HB.out.size))
        replace HV := hid (HV.out.below (below_drew W0 nq))
        clear x0 x1 x2 y0 y1 y2
        generalize W0.drewN nq = W1 at *
        have htl : (b.take k).length = k := List.length_take_of_le hle
        have hW1 : W.size ≤ 1240 := by rw [HWR.out.1, str_size]; omega
        have hWd := hid (show ∀ c ∈ b.take k, isDig c = true by rw [HK.out]; exact take_dn_dig b)
        have hfin := hid (show ∀ n d, rat b = some (n, d) → d ≠ 0 → pc = (if big pt.2.1 pt.2.2 then 1 else 0) ∧ pt = frac (neg? l) n d ∧ n < 10 ^ b.length ∧ d < 10 ^ (b.length + 1) from fun n d hr hd => by
          have hr2 := hr
          rw [HP2.out.2.2.2] at hr2
          have h1 := tcode_some HP2.out.2.2.1 hr2 hd
          exact ⟨by rw [HP2.out.1, h1.1, HP2.out.2.1], by rw [HP2.out.2.1, h1.2], rat_lt hr⟩)
        rw [HNg.out] at hfin
        have hnone := hid (show rat b = none → pc = 3 from fun hr => HP2.out.1.trans (tcode_none HP2.out.2.2.1 (by rw [← HP2.out.2.2.2]; exact hr)))
        have hzero := hid (show ∀ n, rat b = some (n, 0) → pc = 10 from fun n hr => HP2.out.1.trans (tcode_zero HP2.out.2.2.1 (by rw [← HP2.out.2.2.2]; exact hr)))
        have hk0' := hid (show dn b ≠ 0 by rw [← HK.out]; exact HK0.out)
        cases hdr : b.drop k with
        | nil =>
          have hr := hid (show rat b = some (val (b.take k), 1) by unfold rat; rw [if_neg hk0'.out, ← HK.out, hdr])
          have hf := hid (hfin.out _ _ hr.out (by decide))
          have hRn : R.toList = [] := by rw [HWR.out.2, str_toList, hdr]
          have hF := natRead_s W _ W1 HWR.out.1 (by omega) hWd.out
          clear hdr htl hfin hnone hzero
          go_wp2_with fail
          refine hF.mono ?_
          clear hF
          rintro e w3 ⟨v3, rfl, hv3, hB3⟩
          replace HB := hid (HB.out.trans (hB3.mono HB.out.size))
          replace HV := hid (HV.out.below hB3)
          have HV3 := hid hv3
          clear hv3 hB3
          go_wp2_with fail
          refine (NatOf_z _ _ (by omega) (by omega)).mono ?_
          rintro e w4 ⟨v4, rfl, hv4, hB4⟩
          replace HB := hid (HB.out.trans (hB4.mono HB.out.size))
          replace HV := hid (HV.out.below hB4)
          replace HV3 := hid (And.intro (HV3.out.below hB4) hv4)
          clear hv4 hB4
          go_wp2_with fail
          refine (Make_open _ v3 v4 _ 1 (b.length + 2) _ HV3.out.1 HV3.out.2 (le_powB (ten_b8 hf.out.2.2.1) (by omega)) (le_powB (a := 1) (by decide) (by omega)) (by omega) (by decide)).mono ?_
          rintro e w5 ⟨sg, pa, ka, ca, pb, kb, cb, rfl, hQ, hB5⟩
          replace HB := hid (HB.out.trans (hB5.mono HB.out.size))
          replace HV := hid (HV.out.below hB5)
          have hDn := done_fr hQ.out (by decide)
          rw [← hf.out.2.1, ← hf.out.1] at hDn
          clear hQ hB5
          go_wp2_with fail
          refine hDn.mono ?_
          clear hDn
          rintro e w6 ⟨hB6, sg, pa, ka, ca, pb, kb, cb, rfl, hF⟩
          replace HB := hid (HB.out.trans (hB6.mono HB.out.size))
          replace HV := hid (HV.out.below hB6)
          have HF := hid hF
          clear hB6 hF
          obtain ⟨x0, x1, x2, y0, y1, y2⟩ := HV.out.cells
          go_wp2_with fail
          exact rParse_ret rfl rfl (HV.out.store trivial trivial trivial) ⟨below_set3 HB.out (Nat.le_refl _), _, _, _, _, _, _, _, rfl, hid (HF.out.out.store3 HV.out _ _ _)⟩
        | cons c m =>
          have hR : (R.toList == []) = false := by rw [HWR.out.2, toList_nil, hdr]; rfl
          have hml : b.length = k + (m.length + 1) := by
            have h1 := congrArg List.length hdr
            rw [List.length_drop, List.length_cons] at h1
            omega
          have hRs : R.size = m.length + 1 := by rw [HWR.out.2, hdr, str_size, List.length_cons]
          have hRs1 : 0 < R.size := by omega
          have hRs2 : (1 : Int) ≤ (R.size : Int) := by omega
          have hD : R.extract 1 R.size = ⟨m.toArray⟩ := by rw [Lib.Pa.extract_from, HWR.out.2, hdr]; rfl
          have hR0 : R[0] = c := by
            have hh := HWR.out.2
            rw [hdr] at hh
            subst hh
            rfl
          have hdr2 : b.drop (dn b) = c :: m := by rw [← HK.out]; exact hdr
          have hbad0 := hid (fun h => hnone.out (rat_bad hk0'.out hdr2 h))
          have hgood0 := hid (fun h => rat_good hk0'.out hdr2 h)
          rw [← HK.out] at hgood0
          have hE : ((c.toNat : Int) == 46) = decide (c = 46) ∧ ((c.toNat : Int) != 46) = !decide (c = 46) := eq_byte c 46 (by decide)
          have hE7 : ((c.toNat : Int) == 47) = decide (c = 47) ∧ ((c.toNat : Int) != 47) = !decide (c = 47) := eq_byte c 47 (by decide)
          have hml2 : m.length ≤ 1240 := by omega
          have hML := hid (And.intro hml hRs)
          clear hdr hdr2 hml hRs htl
          by_cases h47n : c ≠ 46 ∧ c ≠ 47
          · have b1 : ((R[0].toNat : Int) != 46) = true := by rw [hR0]; exact hE.2.trans (by rw [decide_eq_false h47n.1]; rfl)
            have b2 : ((R[0].toNat : Int) != 47) = true := by rw [hR0]; exact hE7.2.trans (by rw [decide_eq_false h47n.2]; rfl)
            have h3 : pc = 3 := by
              by_cases hbad : m = [] ∨ dn m ≠ m.length
              · exact hbad0.out hbad
              · exact hnone.out (by rw [hgood0.out hbad, if_neg h47n.1, if_neg h47n.2])
            subst h3
            clear hE hE7 h47n hR0 hgood0 hbad0 hfin hnone hzero
            obtain ⟨x0, x1, x2, y0, y1, y2⟩ := HV.out.cells
            go_wp2_with fail
            exact rParse_ret rfl rfl (HV.out.store trivial trivial trivial) ⟨below_set3 HB.out (Nat.le_refl _), URF_err (by decide)⟩
          · obtain ⟨M, hM⟩ : ∃ M : ByteArray, M = ⟨m.toArray⟩ := ⟨_, rfl⟩
            rw [← hM] at hD
            have HRun := hid (fun W => run_z M m W hM (by omega))
            have HM := hid hM
            clear hM
            have hcc : (((R[0].toNat : Int) != 46) = false ∧ ((R[0].toNat : Int) == 46) = true ∧ c = 46) ∨ (((R[0].toNat : Int) != 46) = true ∧ ((R[0].toNat : Int) == 46) = false ∧ ((R[0].toNat : Int) != 47) = false ∧ c ≠ 46 ∧ c = 47) := by
              rw [hR0, hE.1, hE.2, hE7.2]
              by_cases h6 : c = 46
              · exact .inl ⟨by rw [decide_eq_true h6]; rfl, decide_eq_true h6, h6⟩
              · have h7 : c = 47 := Decidable.byContradiction fun h => h47n ⟨h6, h⟩
                exact .inr ⟨by rw [decide_eq_false h6]; rfl, decide_eq_false h6, by rw [decide_eq_true h7]; rfl, h6, h7⟩
            clear hE hE7 h47n hR0
            go_upto_region 13 with fail
            clear hD
            by_cases hm0 : m = []
            · have h3 : pc = 3 := hbad0.out (.inl hm0)
              subst h3
              have hMe : M.toList = [] := by rw [HM.out, str_toList, hm0]
              clear hm0 hgood0 hbad0 hfin hnone hzero
              rcases hcc with ⟨b1, b2, -⟩ | ⟨b1, b2, b3, -, -⟩
              all_goals
                obtain ⟨x0, x1, x2, y0, y1, y2⟩ := HV.out.cells
                go_wp2_with fail
                exact rParse_ret rfl rfl (HV.out.store trivial trivial trivial) ⟨below_set3 HB.out (Nat.le_refl _), URF_err (by decide)⟩
            · have hMe : (M.toList == []) = false := by rw [HM.out, toList_nil, decide_eq_false hm0]
              have hMs : M.size = m.length := by rw [HM.out, str_size]
              by_cases hdm : dn m = m.length
              · have hneq : ((dn m : Int) != (M.size : Int)) = false := by rw [hdm, hMs]; simp
                have hgood := hid (hgood0.out (fun h => h.elim hm0 (fun h => h hdm)))
                have hMd := hid (all_of_dn hdm)
                have HMs := hid hMs
                have hMs1 : M.size ≤ 1240 := by omega
                clear hm0 hgood0 hbad0 hnone hdm hMs
                rcases hcc with ⟨b1, b2, hc⟩ | ⟨b1, b2, b3, hn46, hc⟩
                · have hr2 : rat b = some (val (b.take k ++ m), 10 ^ m.length) := by rw [hgood.out, if_pos hc]
                  have hpos := hid (Nat.pow_pos (n := m.length) (show 0 < 10 by decide))
                  have hf := hid (hfin.out _ _ hr2 (Nat.ne_of_gt hpos.out))
                  have hF := hid (fun W' => natRead_s (W ++ M) (b.take k ++ m) W' (by rw [HWR.out.1, HM.out, str_append]) (by rw [List.length_append, List.length_take]; omega) (fun x hx => by
                      rcases List.mem_append.1 hx with h1 | h1
                      · exact hWd.out x h1
                      · exact hMd.out x h1))
                  clear hr2 hfin hzero hgood hc
                  go_wp2_with fail
                  refine (HRun.out _).mono ?_
                  clear HRun
                  rintro e w1 ⟨rfl, rfl⟩
                  go_wp2_with fail
                  refine (hF.out _).mono ?_
                  clear hF
                  rintro e w3 ⟨v3, rfl, hv3, hB3⟩
                  replace HB := hid (HB.out.trans (hB3.mono HB.out.size))
                  replace HV := hid (HV.out.below hB3)
                  have HV3 := hid hv3
                  clear hv3 hB3
                  go_wp2_with fail
                  refine (NatOf_z _ _ (by omega) (by omega)).mono ?_
                  rintro e w4 ⟨v4, rfl, hv4, hB4⟩
                  replace HB := hid (HB.out.trans (hB4.mono HB.out.size))
                  replace HV := hid (HV.out.below hB4)
                  replace HV3 := hid (HV3.out.below hB4)
                  have hP := NatPow_k v4 _ M.size 1 w4 hv4 (by decide) (by omega) (by omega)
                  clear hv4 hB4
                  go_wp2_with fail
                  refine hP.mono ?_
                  clear hP
                  rintro e w5 ⟨v5, rfl, hv5, hB5⟩
                  replace HB := hid (HB.out.trans (hB5.mono HB.out.size))
                  replace HV := hid (HV.out.below hB5)
                  replace HV3 := hid (And.intro (HV3.out.below hB5) (show Rep B16 w5 v5 (10 ^ m.length) by rw [← HMs.out]; exact hv5))
                  clear hv5 hB5
                  go_wp2_with fail
                  refine (Make_open _ v3 v5 _ _ (b.length + 2) _ HV3.out.1 HV3.out.2 (le_powB (ten_b8 hf.out.2.2.1) (by omega)) (le_powB (ten_b8 hf.out.2.2.2) (by omega)) (by omega) hpos.out).mono ?_
                  rintro e w6 ⟨sg, pa, ka, ca, pb, kb, cb, rfl, hQ, hB6⟩
                  replace HB := hid (HB.out.trans (hB6.mono HB.out.size))
                  replace HV := hid (HV.out.below hB6)
                  have hDn := done_fr hQ.out hpos.out
                  rw [← hf.out.2.1, ← hf.out.1] at hDn
                  clear hQ hB6
                  go_wp2_with fail
                  refine hDn.mono ?_
                  clear hDn
                  rintro e w7 ⟨hB7, sg, pa, ka, ca, pb, kb, cb, rfl, hF⟩
                  replace HB := hid (HB.out.trans (hB7.mono HB.out.size))
                  replace HV := hid (HV.out.below hB7)
                  have HF := hid hF
                  clear hB7 hF
                  obtain ⟨x0, x1, x2, y0, y1, y2⟩ := HV.out.cells
                  go_wp2_with fail
                  exact rParse_ret rfl rfl (HV.out.store trivial trivial trivial) ⟨below_set3 HB.out (Nat.le_refl _), _, _, _, _, _, _, _, rfl, hid (HF.out.out.store3 HV.out _ _ _)⟩
                · have hr2 : rat b = some (val (b.take k), val m) := by rw [hgood.out, if_neg hn46, if_pos hc]
                  have HR2 := hid hr2
                  have hF1 := hid (fun W' => natRead_s M m W' HM.out (by omega) hMd.out)
                  have hF2 := hid (fun W' => natRead_s W _ W' HWR.out.1 (by rw [List.length_take]; omega) hWd.out)
                  clear hr2 hgood hc hn46
                  go_wp2_with fail
                  refine (HRun.out _).mono ?_
                  clear HRun
                  rintro e w1 ⟨rfl, rfl⟩
                  go_wp2_with fail
                  refine (hF1.out _).mono ?_
                  clear hF1
                  rintro e w3 ⟨v3, rfl, hv3, hB3⟩
                  replace HB := hid (HB.out.trans (hB3.mono HB.out.size))
                  replace HV := hid (HV.out.below hB3)
                  have HD := hid hv3
                  obtain ⟨pd, kd, cd, rfl, _, hl, _⟩ := hv3
                  have hzz := hl.zero_iff B16_pos
                  clear hB3 hl
                  by_cases hz : val m = 0
                  · have h10 : pc = 10 := hzero.out _ (by rw [HR2.out, hz])
                    have hkd := hzz.1 hz
                    subst h10 hkd
                    clear hz hzz hF2 hfin hzero
                    obtain ⟨x0, x1, x2, y0, y1, y2⟩ := HV.out.cells
                    go_wp2_with fail
                    exact rParse_ret rfl rfl (HV.out.store trivial trivial trivial) ⟨below_set3 HB.out (Nat.le_refl _), URF_err (by decide)⟩
                  · have hkd : ((kd : Int) == 0) = false := by
                      have : kd ≠ 0 := fun h => hz (hzz.2 h)
                      simpa using this
                    have hf := hid (hfin.out _ _ HR2.out hz)
                    have HZ := hid (Nat.pos_of_ne_zero hz)
                    clear hz hzz hfin hzero HR2
                    go_wp2_with fail
                    refine (hF2.out _).mono ?_
                    clear hF2
                    rintro e w4 ⟨v3, rfl, hv4, hB4⟩
                    replace HB := hid (HB.out.trans (hB4.mono HB.out.size))
                    replace HV := hid (HV.out.below hB4)
                    have HV3 := hid (And.intro hv4 (HD.out.below hB4))
                    clear hv4 hB4 HD
                    go_wp2_with fail
                    refine (Make_open _ v3 _ _ _ (b.length + 2) _ HV3.out.1 HV3.out.2 (le_powB (ten_b8 hf.out.2.2.1) (by omega)) (le_powB (ten_b8 hf.out.2.2.2) (by omega)) (by omega) HZ.out).mono ?_
                    rintro e w6 ⟨sg, pa, ka, ca, pb, kb, cb, rfl, hQ, hB6⟩
                    replace HB := hid (HB.out.trans (hB6.mono HB.out.size))
                    replace HV := hid (HV.out.below hB6)
                    have hDn := done_fr hQ.out HZ.out
                    rw [← hf.out.2.1, ← hf.out.1] at hDn
                    clear hQ hB6
                    go_wp2_with fail
                    refine hDn.mono ?_
                    clear hDn
                    rintro e w7 ⟨hB7, sg, pa, ka, ca, pb, kb, cb, rfl, hF⟩
                    replace HB := hid (HB.out.trans (hB7.mono HB.out.size))
                    replace HV := hid (HV.out.below hB7)
                    have HF := hid hF
                    clear hB7 hF
                    obtain ⟨x0, x1, x2, y0, y1, y2⟩ := HV.out.cells
                    go_wp2_with fail
                    exact rParse_ret rfl rfl (HV.out.store trivial trivial trivial) ⟨below_set3 HB.out (Nat.le_refl _), _, _, _, _, _, _, _, rfl, hid (HF.out.out.store3 HV.out _ _ _)⟩
              · have h3 : pc = 3 := hbad0.out (.inr hdm)
                subst h3
                have hneq : ((dn m : Int) != (M.size : Int)) = true := by
                  rw [hMs]
                  simp
                  omega
                clear hm0 hgood0 hbad0 hfin hnone hzero hdm hMs
                rcases hcc with ⟨b1, b2, -⟩ | ⟨b1, b2, b3, -, -⟩
                all_goals
                  go_wp2_with fail
                  refine (HRun.out _).mono ?_
                  clear HRun
                  rintro e w1 ⟨rfl, rfl⟩
                  obtain ⟨x0, x1, x2, y0, y1, y2⟩ := HV.out.cells
                  go_wp2_with fail
                  exact rParse_ret rfl rfl (HV.out.store trivial trivial trivial) ⟨below_set3 HB.out (Nat.le_refl _), URF_err (by decide)⟩
end Go.Proofs.YtjnfnngobkjneaaDoor
