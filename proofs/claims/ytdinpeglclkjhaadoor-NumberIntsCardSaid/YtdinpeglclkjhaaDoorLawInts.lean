/- The law NumberInts. -/
import Derived.Test.YtdinpeglclkjhaaDoorLawA
import Derived.Test.YtdinpeglclkjhaaDoorRefJ
namespace Go.Proofs.YtdinpeglclkjhaaDoor
open Go.RowKit Dg

theorem lt_B4 {m : Nat} (h : m < 18446744073709551616) : m < B16 ^ 400000000 := by
  have h1 : m < B16 ^ 4 := Nat.lt_of_lt_of_le h (by decide)
  generalize hb : 400000000 = b
  exact Nat.lt_of_lt_of_le h1 (Nat.pow_le_pow_right B16_pos (by omega))
theorem lt_W1 {m a : Nat} (h : m < 18446744073709551616) (ha : 2 ≤ a) : m < W32 ^ a := by
  have h1 : m < W32 ^ 2 := Nat.lt_of_lt_of_le h (by decide)
  exact Nat.lt_of_lt_of_le h1 (Nat.pow_le_pow_right W32_pos ha)
theorem lt_W8 {m : Nat} (h : m < 18446744073709551616) : m < W32 ^ 100000000 := by
  have h1 : m < W32 ^ 2 := lt_W1 h (by omega)
  generalize hb : 100000000 = b
  exact Nat.lt_of_lt_of_le h1 (Nat.pow_le_pow_right W32_pos (by omega))
theorem lt_W9 {m : Nat} (h : m < 18446744073709551616) : m < W32 ^ 1000000000 := lt_big (lt_W1 (a := 2) h (by omega)) (by omega)
theorem canon_int (n : Int) : Canon (decide (n < 0)) n.natAbs 0 := by
  refine ⟨?_, by decide⟩
  show mkq _ _ 1 = (_, _, 1)
  by_cases h : n.natAbs = 0
  · have : n = 0 := by omega
    subst this
    rfl
  · exact mkq_one h
theorem mkq_int (n : Int) : mkq (decide (n < 0)) n.natAbs 1 = (decide (n < 0), n.natAbs, 1) := (canon_int n).1
theorem same_self {s : Bool} {n d : Nat} : SameQ s n d s n d := by
  by_cases h : n = 0
  · exact .inl ⟨h, h⟩
  · exact .inr ⟨h, h, rfl, rfl⟩
theorem frac_one (s : Bool) (n : Nat) : frac s n 1 = (s && decide (n ≠ 0), n, 1) := by
  unfold frac
  rw [Nat.gcd_one_right, Nat.div_one, Nat.div_one]
/-- n + 1 in fractions. -/
theorem fadd_one (n : Int) : fadd (frac (decide (n < 0)) n.natAbs (den1 0)) (frac false 1 (den1 0)) = (decide (n + 1 < 0), (n + 1).natAbs, 1) := by
  rw [show den1 0 = 1 from rfl, frac_one, frac_one]
  unfold fadd
  simp only [Nat.mul_one]
  by_cases h : n < 0
  · have h0 : n.natAbs ≠ 0 := by omega
    have e1 : (decide (n < 0) && decide (n.natAbs ≠ 0)) = true := by simp [h, h0]
    rw [e1]
    simp only [show (false && decide ((1 : Nat) ≠ 0)) = false from rfl]
    rw [if_neg (by decide), if_neg (by omega), frac_one]
    by_cases h1 : n = -1
    · subst h1; rfl
    · rw [show decide (n + 1 < 0) = true from decide_eq_true (by omega), show (true && decide (n.natAbs - 1 ≠ 0)) = true by simp; omega, show n.natAbs - 1 = (n + 1).natAbs by omega]
  · have e1 : (decide (n < 0) && decide (n.natAbs ≠ 0)) = false := by simp [h]
    rw [e1]
    simp only [show (false && decide ((1 : Nat) ≠ 0)) = false from rfl]
    rw [if_pos trivial, frac_one]
    rw [show decide (n + 1 < 0) = false from decide_eq_false (by omega), show n.natAbs + 1 = (n + 1).natAbs by omega]
    rfl
theorem ncode_one (m : Nat) (h : m < 18446744073709551616) (k : Nat) (hk : k < 18446744073709551616) (s : Bool) : ncode m 0 1 0 0 (s, k, 1) = 0 := by
  unfold ncode ucode bcode
  rw [large_small (n := m) (d := 0) (lt_W1 h (by omega)) (by decide), large_small (n := 1) (d := 0) (by decide) (by decide), big_small (m := k) (d := 1) (lt_W1 hk (by omega)) (by decide)]
  rfl

set_option maxHeartbeats 8000000 in
set_option maxRecDepth 100000 in
theorem NumberInts_any (n : Int) (w : World) (hlo : -9223372036854775808 ≤ n) (hhi : n < 9223372036854775808) (ht : TabOk w) :
    Calls Tryd.prog 4 #[.int .i64 n] w fun e w' => e = .returned (.bool true) ∧ Below w.heap.size w w' := by
  have hm : n.natAbs < 18446744073709551616 := by omega
  have H1 := hid (fun W => fopen (nFromInt_any n W hlo hhi))
  have H2 : Hid (∀ W v, FNorm W v (decide (n < 0), n.natAbs, 0) → Calls Tryd.prog 23 #[v] W fun e w' => e = .returned (.bool true) ∧ Below W.heap.size W w') :=
    hid fun W v h => Canonical_any v _ _ _ W h (lt_W8 hm) (lt_W8 (m := 0) (by decide)) (canon_int n) (MakeOK.int _ hm)
  have H3 : Hid (∀ W, Calls Tryd.prog 25 #[.int .i64 n] W fun e w' => ∃ v', e = .returned v' ∧ QNorm w' v' (decide (n < 0), n.natAbs, 1) ∧ Below W.heap.size W w') :=
    hid fun W => by have h := rInt_any n W hlo hhi; rw [mkq_int] at h; exact h
  have H4 : Hid (∀ W v, QNorm W v (decide (n < 0), n.natAbs, 1) → Calls Tryd.prog 20 #[v] W fun e w' => ∃ v', e = .returned v' ∧ FNorm w' v' (decide (n < 0), n.natAbs, 0) ∧ Below W.heap.size W w') := by
    refine hid fun W v h => ?_
    have h4 := rRat_any v _ _ _ W h (big_4 (lt_B4 hm)) (big_4 (lt_B4 (m := 1) (by decide)))
    simp only at h4
    rw [(canon_int n).sign, show den0' 1 = 0 from rfl] at h4
    exact h4
  have H5 : Hid (∀ (m : Int) W v v', m.natAbs < 18446744073709551616 → FNorm W v (decide (m < 0), m.natAbs, 0) → FNorm W v' (decide (m < 0), m.natAbs, 0) → Calls Tryd.prog 24 #[v, v'] W fun e w' => e = .returned (.bool true) ∧ Below W.heap.size W w') :=
    hid fun m W v v' hm h h' => Equal_any v _ _ _ v' _ _ _ W (h.arep (lt_W9 hm) (lt_W9 (m := 0) (by decide))) (h'.arep (lt_W9 hm) (lt_W9 (m := 0) (by decide))) (lt_B4 hm) (lt_B4 (m := 0) (by decide)) (lt_B4 hm) (lt_B4 (m := 0) (by decide)) same_self
  have HT := hid ht
  have HN := hid (And.intro hlo (And.intro hhi hm))
  clear ht
  go_enter Tryd.func4, Tryd.ntmps4
  go_wp2_with fail
  refine (H1.out w).mono ?_
  rintro e w1 ⟨sg, pa, ka, ca, pb, kb, cb, rfl, hF1, hB1⟩
  go_upto_region 2 with fail
  have hal := (Below.refl w1.heap.size w1).alloc (Nat.le_refl _) (.cells #[.bool sg, .slice pa ka ca, .slice pb kb cb] 24)
  have hV := Var3.alloc w1 (x := .bool sg) (y := .slice pa ka ca) (z := .slice pb kb cb) 24 trivial trivial trivial
  have HF := hid (hF1.out.below hal)
  have HB0 := hid (hB1.trans (hal.mono hB1.size))
  clear hF1 hB1 hal
  generalize w1.alloc (.cells #[.bool sg, .slice pa ka ca, .slice pb kb cb] 24) = W0 at *
  generalize w1.heap.size = X at *
  have HC : Hid (∀ w', Below W0.heap.size W0 w' → (w'.cell? ⟨X, 0, none⟩ = some (.bool sg) ∧ w'.cell? ⟨X, 1, none⟩ = some (.slice pa ka ca) ∧ w'.cell? ⟨X, 2, none⟩ = some (.slice pb kb cb) ∧ Hid (Below W0.heap.size W0 w'))) :=
    hid fun w' hb => ⟨(hV.below hb).cells.1, (hV.below hb).cells.2.1, (hV.below hb).cells.2.2.1, hid hb⟩
  have HV := hid hV
  clear hV
  go_region_held3 (fun w' => w'.cell? ⟨X, 0, none⟩ = some (.bool sg) ∧ w'.cell? ⟨X, 1, none⟩ = some (.slice pa ka ca) ∧ w'.cell? ⟨X, 2, none⟩ = some (.slice pb kb cb) ∧ Hid (Below W0.heap.size W0 w'))
    (first | exact HC.out _ (Below.refl _ _).drew | (exact HC.out _ (by assumption)))
    (first
      | (go_at_call 23; refine (H2.out _ _ (HF.out.below (held3' (N := W0.heap.size) (W0 := W0) (by assumption)))).mono ?_; rintro e wc ⟨rfl, hBc⟩; have hKc := held_any (held3' (N := W0.heap.size) (W0 := W0) (by assumption)) hBc)
      | (go_at_call 25; refine (H3.out _).mono ?_; rintro e wi ⟨vi, rfl, hQi, hBi⟩; have hKi := held_any (held3' (N := W0.heap.size) (W0 := W0) (by assumption)) hBi)
      | (go_at_call 20; refine (H4.out _ _ hQi).mono ?_; rintro e wr ⟨vr, rfl, hFr, hBr⟩; have hKr := held_any (held3' (N := W0.heap.size) (W0 := W0) (by assumption)) hBr)
      | (go_at_call 24; refine (H5.out n _ _ _ HN.out.2.2 (HF.out.below (held3' (N := W0.heap.size) (W0 := W0) (by assumption))) hFr).mono ?_; rintro e we ⟨rfl, hBe⟩; have hKe := held_any (held3' (N := W0.heap.size) (W0 := W0) (by assumption)) hBe))
  rename_i hHeld
  clear hHeld hQi hBi hKi hFr hBr hKr hBc hKc hBe
  have HT1 := hid ((HT.out.below HB0.out).below hKe)
  have HB1 := hid (HB0.out.trans (hKe.mono HB0.out.size))
  have hV1 := HV.out.below hKe
  have HV1 := hid hV1
  have HF1 := hid (HF.out.below hKe)
  clear HC HV HF HB0 hKe
  by_cases he : n = 9223372036854775807
  · subst he
    go_wp2_with fail
    refine (awake_any _ HT1.out).mono ?_
    rintro e wz ⟨rfl, hBz⟩
    go_wp2_with fail
    go_ret
    exact ⟨rfl, HB1.out.trans (hBz.mono HB1.out.size)⟩
  · have hne : (n == 9223372036854775807) = false := by simp; exact he
    have hlo := HN.out.1
    have hhi := HN.out.2.1
    have hwr : IntKind.i64.wrap (n + 1) = n + 1 := by simp [IntKind.wrap, IntKind.bits, IntKind.signed]; omega
    have hm1 : (n + 1).natAbs < 18446744073709551616 := by omega
    have H6 := hid (fun W => fopen (nFromInt_any (n + 1) W (by omega) (by omega)))
    have H7 := hid (fun W => fopen (nFromInt_any 1 W (by omega) (by omega)))
    have H8 : Hid (∀ W v y, FNorm W v (decide (n < 0), n.natAbs, 0) → FNorm W y (decide ((1 : Int) < 0), (1 : Int).natAbs, 0) → TabOk W → Calls Tryd.prog 26 #[v, y] W fun e w' => Below W.heap.size W w' ∧ ∃ sg pa ka ca pb kb cb, e = .returned (.tuple #[.agg #[.bool sg, .slice pa ka ca, .slice pb kb cb], .int .i64 0]) ∧ Hid (FNorm w' (.agg #[.bool sg, .slice pa ka ca, .slice pb kb cb]) (decide (n + 1 < 0), (n + 1).natAbs, 0))) := by
      refine hid fun W v y h1 h2 h3 => (nAdd_any v _ _ _ y _ _ _ W (h1.arep (lt_W9 HN.out.2.2) (lt_W9 (m := 0) (by decide))) (h2.arep (lt_W9 (m := 1) (by decide)) (lt_W9 (m := 0) (by decide))) h3).mono ?_
      rintro e w' ⟨hB, hR⟩
      simp only at hR
      rw [show decide ((1 : Int) < 0) = false from rfl, show (1 : Int).natAbs = 1 from rfl, fadd_one n, ncode_one _ HN.out.2.2 _ hm1] at hR
      refine ⟨hB, ?_⟩
      rcases hR with ⟨h0, _⟩ | ⟨_, h⟩
      · exact absurd rfl h0
      · exact h
    clear he hlo hhi
    go_upto_region 6 with fail
    have HC : Hid (∀ w', Below we.heap.size we w' → (w'.cell? ⟨X, 0, none⟩ = some (.bool sg) ∧ w'.cell? ⟨X, 1, none⟩ = some (.slice pa ka ca) ∧ w'.cell? ⟨X, 2, none⟩ = some (.slice pb kb cb) ∧ Hid (Below we.heap.size we w'))) :=
      hid fun w' hb => ⟨(HV1.out.below hb).cells.1, (HV1.out.below hb).cells.2.1, (HV1.out.below hb).cells.2.2.1, hid hb⟩
    clear hV1
    go_region_held3 (fun w' => w'.cell? ⟨X, 0, none⟩ = some (.bool sg) ∧ w'.cell? ⟨X, 1, none⟩ = some (.slice pa ka ca) ∧ w'.cell? ⟨X, 2, none⟩ = some (.slice pb kb cb) ∧ Hid (Below we.heap.size we w'))
      (first | exact HC.out _ (Below.refl _ _).drew | (exact HC.out _ (by assumption)) | (exact HC.out _ (held3_alloc (by assumption) _)) | (exact HC.out _ (held3_alloc' (by assumption) _)) | (exact HC.out _ (below_al1 (by assumption) _)) | (exact HC.out _ (below_set3 (by assumption) (Nat.le_refl _))) | (exact HC.out _ (below_set3 (by assumption) (by assumption))))
      (first
        | (go_at_call 22; refine (H7.out _).mono ?_; rintro e w7 ⟨sg7, pa7, ka7, ca7, pb7, kb7, cb7, rfl, hF7, hB7⟩; have hK7 := held_any (held3' (N := we.heap.size) (W0 := we) (by assumption)) hB7; try (have hVn := ((Var3.alloc we (x := .bool false) (y := .slice none 0 0) (z := .slice none 0 0) 24 trivial trivial trivial).below (Below.refl _ _).drew).below hB7))
        | (go_at_call 26
           first
            | (refine (H8.out _ _ _ (HF1.out.below hK7) hF7.out (HT1.out.below hK7)).mono ?_; rintro e w8 ⟨hB8, sg8, pa8, ka8, ca8, pb8, kb8, cb8, rfl, hF8⟩; have hK8 := held_any hK7 hB8; have hs8 : we.heap.size ≤ w8.heap.size := hK8.size; try (have hVm := hVn.below hB8; obtain ⟨x0, x1, x2, y0, y1, y2⟩ := id hVm.cells))
            | (refine (H8.out _ _ _ (HF1.out.below (below_al1 hK7 _)) (hF7.out.below ((Below.refl _ _).alloc (Nat.le_refl _) _)) (HT1.out.below (below_al1 hK7 _))).mono ?_; rintro e w8 ⟨hB8, sg8, pa8, ka8, ca8, pb8, kb8, cb8, rfl, hF8⟩; have hK8 := held_any (below_al1 hK7 (.cells #[.bool false, .slice none 0 0, .slice none 0 0] 24)) hB8; have hs7 : we.heap.size ≤ w7.heap.size := hK7.size; have hVm := (Var3.alloc w7 (x := .bool false) (y := .slice none 0 0) (z := .slice none 0 0) 24 trivial trivial trivial).below hB8; obtain ⟨x0, x1, x2, y0, y1, y2⟩ := id hVm.cells)))
    all_goals
      rename_i hHeld
      clear hHeld
      first
        | (have hVX : Hid (Var3 (((w8.setCell ⟨w7.heap.size, 0, none⟩ (.bool sg8)).setCell ⟨w7.heap.size, 1, none⟩ (.slice pa8 ka8 ca8)).setCell ⟨w7.heap.size, 2, none⟩ (.slice pb8 kb8 cb8)) w7.heap.size (.bool sg8) (.slice pa8 ka8 ca8) (.slice pb8 kb8 cb8)) := hid (hVm.store trivial trivial trivial)
           have hFX := hid (hF8.out.store3 hVm (.bool sg8) (.slice pa8 ka8 ca8) (.slice pb8 kb8 cb8))
           have hKX : Hid (Below we.heap.size we (((w8.setCell ⟨w7.heap.size, 0, none⟩ (.bool sg8)).setCell ⟨w7.heap.size, 1, none⟩ (.slice pa8 ka8 ca8)).setCell ⟨w7.heap.size, 2, none⟩ (.slice pb8 kb8 cb8))) := hid (below_set3 hK8 hs7)
           clear hB8 hVm x0 x1 x2 y0 y1 y2 hF8
           generalize (((w8.setCell ⟨w7.heap.size, 0, none⟩ (.bool sg8)).setCell ⟨w7.heap.size, 1, none⟩ (.slice pa8 ka8 ca8)).setCell ⟨w7.heap.size, 2, none⟩ (.slice pb8 kb8 cb8)) = WX at *
           generalize w7.heap.size = Y at *)
        | (have hVX : Hid (Var3 (((w8.setCell ⟨we.heap.size, 0, none⟩ (.bool sg8)).setCell ⟨we.heap.size, 1, none⟩ (.slice pa8 ka8 ca8)).setCell ⟨we.heap.size, 2, none⟩ (.slice pb8 kb8 cb8)) we.heap.size (.bool sg8) (.slice pa8 ka8 ca8) (.slice pb8 kb8 cb8)) := hid (hVm.store trivial trivial trivial)
           have hFX := hid (hF8.out.store3 hVm (.bool sg8) (.slice pa8 ka8 ca8) (.slice pb8 kb8 cb8))
           have hKX : Hid (Below we.heap.size we (((w8.setCell ⟨we.heap.size, 0, none⟩ (.bool sg8)).setCell ⟨we.heap.size, 1, none⟩ (.slice pa8 ka8 ca8)).setCell ⟨we.heap.size, 2, none⟩ (.slice pb8 kb8 cb8))) := hid (below_set3 hK8 (Nat.le_refl _))
           clear hB8 hVm x0 x1 x2 y0 y1 y2 hF8
           generalize (((w8.setCell ⟨we.heap.size, 0, none⟩ (.bool sg8)).setCell ⟨we.heap.size, 1, none⟩ (.slice pa8 ka8 ca8)).setCell ⟨we.heap.size, 2, none⟩ (.slice pb8 kb8 cb8)) = WX at *
           obtain ⟨Y, hY⟩ : ∃ Y, Y = we.heap.size := ⟨_, rfl⟩
           rw [← hY] at hVX ⊢
           clear hY)
        | (have hVX : Hid (Var3 (w8.alloc (.cells #[.bool sg8, .slice pa8 ka8 ca8, .slice pb8 kb8 cb8] 24)) w8.heap.size (.bool sg8) (.slice pa8 ka8 ca8) (.slice pb8 kb8 cb8)) := hid (Var3.alloc w8 24 trivial trivial trivial)
           have hFX := hid (hF8.out.below ((Below.refl w8.heap.size w8).alloc (Nat.le_refl _) (.cells #[.bool sg8, .slice pa8 ka8 ca8, .slice pb8 kb8 cb8] 24)))
           have hKX := hid (below_al1 hK8 (.cells #[.bool sg8, .slice pa8 ka8 ca8, .slice pb8 kb8 cb8] 24))
           clear hB8 hF8
           generalize (w8.alloc (.cells #[.bool sg8, .slice pa8 ka8 ca8, .slice pb8 kb8 cb8] 24)) = WX at *
           generalize w8.heap.size = Y at *)
      clear hK8 hK7 hB7 hF7 HC H1 H2 H3 H4 H7 H8
      have HD : Hid (∀ w', Below WX.heap.size WX w' → (w'.cell? ⟨Y, 0, none⟩ = some (.bool sg8) ∧ w'.cell? ⟨Y, 1, none⟩ = some (.slice pa8 ka8 ca8) ∧ w'.cell? ⟨Y, 2, none⟩ = some (.slice pb8 kb8 cb8) ∧ Hid (Below WX.heap.size WX w'))) :=
        hid fun w' hb => ⟨(hVX.out.below hb).cells.1, (hVX.out.below hb).cells.2.1, (hVX.out.below hb).cells.2.2.1, hid hb⟩
      go_upto_region 7 with fail
      go_region_held3 (fun w' => w'.cell? ⟨Y, 0, none⟩ = some (.bool sg8) ∧ w'.cell? ⟨Y, 1, none⟩ = some (.slice pa8 ka8 ca8) ∧ w'.cell? ⟨Y, 2, none⟩ = some (.slice pb8 kb8 cb8) ∧ Hid (Below WX.heap.size WX w'))
        (first | exact HD.out _ (Below.refl _ _).drew | (exact HD.out _ (by assumption)))
        (first
          | (go_at_call 22; refine (H6.out _).mono ?_; rintro e wq ⟨sq, pq, kq, cq, rq, lq, dq, rfl, hFq, hBq⟩; have hKq := held_any (held3' (N := WX.heap.size) (W0 := WX) (by assumption)) hBq)
          | (go_at_call 24; refine (H5.out (n + 1) _ _ _ hm1 (hFX.out.below (held3' (N := WX.heap.size) (W0 := WX) (by assumption))) hFq.out).mono ?_; rintro e wr ⟨rfl, hBr⟩; have hKr := held_any (held3' (N := WX.heap.size) (W0 := WX) (by assumption)) hBr)
          | (go_at_call 18; refine (awake_any _ ((HT1.out.below hKX.out).below (held3' (N := WX.heap.size) (W0 := WX) (by assumption)))).mono ?_; rintro e wz ⟨rfl, hBz⟩; have hKz := held_any (held3' (N := WX.heap.size) (W0 := WX) (by assumption)) hBz))
      rename_i hHeld
      clear hHeld
      have HZ := hid (HB1.out.trans ((hKX.out.trans (hKz.mono hKX.out.size)).mono HB1.out.size))
      clear hKz hBz hKr hBr hKq hBq hFq HD hVX hFX hKX
      go_wp2_with fail
      go_ret
      exact ⟨rfl, HZ.out⟩
end Go.Proofs.YtdinpeglclkjhaaDoor
