/- The simplest number between two, in the specification. -/
import Derived.Test.YtppllgnoniaafaaDoorGrd
import Derived.Test.YtppllgnoniaafaaDoorSplM
namespace Go.Proofs.YtppllgnoniaafaaDoor
open Go.RowKit Dg

set_option maxHeartbeats 16000000 in
set_option maxRecDepth 100000 in
theorem rplain_any : ∀ (N : Nat) (vn vd vm ve : Value) (n d m e A : Nat) (w : World), d + e ≤ N → Rep B16 w vn n → Rep B16 w vd d → Rep B16 w vm m → Rep B16 w ve e →
    n < B16 ^ A → d < B16 ^ A → m < B16 ^ A → e < B16 ^ A → 1 ≤ A → A ≤ 1000 → 0 < n → 0 < d → 0 < e → n * e ≤ m * d →
    Calls Tryd.prog 97 #[vn, vd, vm, ve] w fun e' w' => ∃ va vb, e' = .returned (.tuple #[va, vb]) ∧ Rep B16 w' va (spl n d m e).1 ∧ Rep B16 w' vb (spl n d m e).2 ∧ Below w.heap.size w w' := by
  intro N
  induction N with
  | zero => intro _ _ _ _ n d m e A w h _ _ _ _ _ _ _ _ _ _ _ hd; omega
  | succ N ih =>
    intro vn vd vm ve n d m e A w hN hRn hRd hRm hRe bn bd bm be hA1 hA hn hd he hle
    have HR := hid (And.intro hRn (And.intro hRd (And.intro hRm hRe)))
    have HDv := hid (NatDiv_any vn vd n d w hRn hRd (b_8 bn (by omega)) (b_8 bd (by omega)) hd)
    have HOf := hid (fun (W : World) => NatOf_any 1 W (by decide))
    have bf : n / d < B16 ^ A := Nat.lt_of_le_of_lt (Nat.div_le_self _ _) bn
    have bf1 : n / d + 1 < B16 ^ (A + 1) := succ_b bf
    have b1 : 1 < B16 ^ A := one_b hA1
    have HAd := hid (fun (W : World) (v1 v2 : Value) (h1 : Rep B16 W v1 (n / d)) (h2 : Rep B16 W v2 1) => NatAdd_any v1 v2 (n / d) 1 W h1 h2 (b_big bf (by omega)) (b_big b1 (by omega)))
    have HMu := hid (fun (W : World) (v1 : Value) (h1 : Rep B16 W v1 (n / d + 1)) (h2 : Rep B16 W ve e) => NatMul_any v1 ve (n / d + 1) e W h1 h2 (b_big bf1 (by omega)) (b_big be (by omega)))
    have bme : (n / d + 1) * e < B16 ^ (A + 1 + A) := mul_b bf1 be (Nat.le_refl _)
    have HCm := hid (fun (W : World) (v1 : Value) (h1 : Rep B16 W v1 ((n / d + 1) * e)) (h2 : Rep B16 W vm m) => NatCmp_any v1 vm ((n / d + 1) * e) m W h1 h2 (b_big bme (by omega)) (b_big bm (by omega)))
    have HMf := hid (fun (W : World) (v1 : Value) (h1 : Rep B16 W v1 (n / d)) (h2 : Rep B16 W ve e) => NatMul_any v1 ve (n / d) e W h1 h2 (b_big bf (by omega)) (b_big be (by omega)))
    have hz0 := @spl_zero n d m e
    have hz1 := @spl_next n d m e hd
    have hz2 := @spl_step n d m e hd
    have hE := spl_ends hd he hle
    have HSb := hid (fun (hk : n / d * e ≤ m) (W : World) (v1 : Value) (h2 : Rep B16 W vm m) (h1 : Rep B16 W v1 (n / d * e)) => NatSub_any vm v1 m (n / d * e) W h2 h1 (b_big bm (by omega)) hk)
    have bmf : m - n / d * e < B16 ^ A := Nat.lt_of_le_of_lt (Nat.sub_le _ _) bm
    have br : n % d < B16 ^ A := Nat.lt_of_le_of_lt (Nat.mod_le _ _) bn
    have hsl := @spl_le e (m - n / d * e) d (n % d)
    have HIh := hid (fun (hk : 0 < m - n / d * e ∧ m - n / d * e < e ∧ 0 < n % d ∧ n % d < d ∧ e * (n % d) ≤ d * (m - n / d * e)) (W : World) (v1 v2 : Value) (h1 : Rep B16 W ve e) (h2 : Rep B16 W v1 (m - n / d * e)) (h3 : Rep B16 W vd d) (h4 : Rep B16 W v2 (n % d)) =>
      ih ve v1 vd v2 e (m - n / d * e) d (n % d) A W (by omega) h1 h2 h3 h4 be bmf bd br hA1 hA he hk.1 hk.2.2.1 hk.2.2.2.2)
    have HMa := hid (fun (hk : 0 < m - n / d * e ∧ m - n / d * e < e ∧ 0 < n % d ∧ n % d < d ∧ e * (n % d) ≤ d * (m - n / d * e)) (W : World) (v1 v2 : Value) (h1 : Rep B16 W v1 (n / d)) (h2 : Rep B16 W v2 (spl e (m - n / d * e) d (n % d)).1) =>
      NatMul_any v1 v2 (n / d) (spl e (m - n / d * e) d (n % d)).1 W h1 h2 (b_big bf (by omega)) (b_big (Nat.lt_of_le_of_lt (hsl he hk.1 hk.2.2.1 hk.2.2.2.2).1 be) (by omega)))
    have HAb := hid (fun (hk : 0 < m - n / d * e ∧ m - n / d * e < e ∧ 0 < n % d ∧ n % d < d ∧ e * (n % d) ≤ d * (m - n / d * e)) (W : World) (v1 v2 : Value) (h1 : Rep B16 W v1 (n / d * (spl e (m - n / d * e) d (n % d)).1)) (h2 : Rep B16 W v2 (spl e (m - n / d * e) d (n % d)).2) =>
      NatAdd_any v1 v2 _ _ W h1 h2 (b_big (mul_b (c := A + A) bf (Nat.lt_of_le_of_lt (hsl he hk.1 hk.2.2.1 hk.2.2.2.2).1 be) (Nat.le_refl _)) (by omega)) (b_big (Nat.lt_of_le_of_lt (hsl he hk.1 hk.2.2.1 hk.2.2.2.2).2 bmf) (by omega)))
    have HZ := hid (And.intro hz0 (And.intro hz1 (And.intro hz2 hE)))
    clear ih bn bd bm be hA1 hA hn hd he hle bf bf1 b1 bme bmf br hsl hz0 hz1 hz2 hE hN
    obtain ⟨S, hS⟩ : ∃ S, S = spl n d m e := ⟨_, rfl⟩
    rw [← hS] at HZ ⊢
    clear hS
    obtain ⟨S2, hS2⟩ : ∃ S, S = spl e (m - n / d * e) d (n % d) := ⟨_, rfl⟩
    rw [← hS2] at HZ HIh HMa HAb
    clear hS2
    obtain ⟨f, hf⟩ : ∃ f, f = n / d := ⟨_, rfl⟩
    obtain ⟨r, hr⟩ : ∃ f, f = n % d := ⟨_, rfl⟩
    rw [← hf] at HDv HAd HMu HCm HMf HSb HIh HMa HAb HZ
    rw [← hr] at HDv HIh HMa HAb HZ
    clear hf hr
    obtain ⟨g, hg⟩ : ∃ z, z = m - f * e := ⟨_, rfl⟩
    rw [← hg] at HSb HIh HMa HAb HZ
    clear hg
    obtain ⟨p1, k1, c1, rfl, _⟩ := hRn
    obtain ⟨p2, k2, c2, rfl, _⟩ := hRd
    obtain ⟨p3, k3, c3, rfl, _⟩ := hRm
    obtain ⟨p4, k4, c4, rfl, _⟩ := hRe
    go_enter Tryd.func97, Tryd.ntmps97
    go_wp2_with fail
    refine HDv.out.mono ?_
    rintro e1 w1 ⟨vf, vr, rfl, hRf, hRr, hB1⟩
    have HR1 := hid (And.intro hRf (And.intro hRr (And.intro (HR.out.2.1.below hB1) (And.intro (HR.out.2.2.1.below hB1) (HR.out.2.2.2.below hB1)))))
    have HB1 := hid hB1
    obtain ⟨p8, k8, c8, rfl, hkk8, hl8, _⟩ := hRr
    have hk8 := hl8.zero_iff B16_pos
    clear hl8 hkk8 hRf hB1 HDv HR
    by_cases h : r = 0
    · have hS := HZ.out.1 h
      have hk0 := hk8.1 h
      subst hk0
      subst hS
      clear hk8 h HZ
      go_wp2_with fail
      refine (HOf.out _).mono ?_
      rintro e2 w2 ⟨v2, rfl, hR2, hB2⟩
      have HF := hid (And.intro (HR1.out.1.below hB2) (And.intro hR2 (HB1.out.trans (hB2.mono HB1.out.size))))
      clear hR2 hB2
      go_wp2_with fail
      go_ret2
      exact ⟨_, _, rfl, HF.out.1, HF.out.2.1, HF.out.2.2⟩
    · have hk0 : ((k8 : Int) == 0) = false := by
        have : k8 ≠ 0 := fun h0 => h (hk8.2 h0)
        simpa using this
      have hk1 : ¬ k8 = 0 := fun h0 => h (hk8.2 h0)
      clear hk8
      go_wp2_with fail
      refine (HOf.out _).mono ?_
      rintro e2 w2 ⟨v2, rfl, hR2, hB2⟩
      replace HR1 := hid (And.intro (HR1.out.1.below hB2) (And.intro (HR1.out.2.1.below hB2) (And.intro (HR1.out.2.2.1.below hB2) (And.intro (HR1.out.2.2.2.1.below hB2) (HR1.out.2.2.2.2.below hB2)))))
      replace HB1 := hid (HB1.out.trans (hB2.mono HB1.out.size))
      clear hB2
      go_wp2_with fail
      refine (HAd.out _ _ _ HR1.out.1 hR2).mono ?_
      rintro e3 w3 ⟨v3, rfl, hR3, hB2⟩
      replace HR1 := hid (And.intro (HR1.out.1.below hB2) (And.intro (HR1.out.2.1.below hB2) (And.intro (HR1.out.2.2.1.below hB2) (And.intro (HR1.out.2.2.2.1.below hB2) (HR1.out.2.2.2.2.below hB2)))))
      replace HB1 := hid (HB1.out.trans (hB2.mono HB1.out.size))
      have HR3 := hid hR3
      clear hB2 hR2 hR3
      go_wp2_with fail
      refine (HMu.out _ _ HR3.out HR1.out.2.2.2.2).mono ?_
      rintro e4 w4 ⟨v4, rfl, hR4, hB2⟩
      replace HR1 := hid (And.intro (HR1.out.1.below hB2) (And.intro (HR1.out.2.1.below hB2) (And.intro (HR1.out.2.2.1.below hB2) (And.intro (HR1.out.2.2.2.1.below hB2) (HR1.out.2.2.2.2.below hB2)))))
      replace HB1 := hid (HB1.out.trans (hB2.mono HB1.out.size))
      replace HR3 := hid (HR3.out.below hB2)
      clear hB2
      go_wp2_with fail
      refine (HCm.out _ _ hR4 HR1.out.2.2.2.1).mono ?_
      rintro e5 w5 ⟨rfl, q, rfl⟩
      have hB2 := below_drewN (Below.refl w4.heap.size w4) q
      replace HR1 := hid (And.intro (HR1.out.1.below hB2) (And.intro (HR1.out.2.1.below hB2) (And.intro (HR1.out.2.2.1.below hB2) (And.intro (HR1.out.2.2.2.1.below hB2) (HR1.out.2.2.2.2.below hB2)))))
      replace HB1 := hid (HB1.out.trans (hB2.mono HB1.out.size))
      replace HR3 := hid (HR3.out.below hB2)
      clear hB2 hR4
      generalize w4.drewN q = w5 at *
      by_cases h2 : (f + 1) * e ≤ m
      · have hS := HZ.out.2.1 h h2
        have hcm : decide (cmp3 ((f + 1) * e) m ≤ 0) = true := decide_eq_true (by unfold cmp3; split; decide; split; omega; decide)
        obtain ⟨cm, hcm'⟩ : ∃ c, c = cmp3 ((f + 1) * e) m := ⟨_, rfl⟩
        rw [← hcm'] at hcm ⊢
        clear hcm'
        subst hS
        clear h h2 HZ
        go_wp2_with fail
        refine (HOf.out _).mono ?_
        rintro e2 w2 ⟨v2, rfl, hR2, hB2⟩
        have HF := hid (And.intro (HR3.out.below hB2) (And.intro hR2 (HB1.out.trans (hB2.mono HB1.out.size))))
        clear hR2 hB2
        go_wp2_with fail
        go_ret2
        exact ⟨_, _, rfl, HF.out.1, HF.out.2.1, HF.out.2.2⟩
      · have hS := HZ.out.2.2.1 h h2
        obtain ⟨hk, hk'⟩ := HZ.out.2.2.2 h h2
        have hcm : decide (cmp3 ((f + 1) * e) m ≤ 0) = false := decide_eq_false (by unfold cmp3; split; omega; split; decide; omega)
        obtain ⟨cm, hcm'⟩ : ∃ c, c = cmp3 ((f + 1) * e) m := ⟨_, rfl⟩
        rw [← hcm'] at hcm ⊢
        clear hcm'
        subst hS
        replace HSb := hid (HSb.out hk)
        replace HIh := hid (HIh.out hk')
        replace HMa := hid (HMa.out hk')
        replace HAb := hid (HAb.out hk')
        clear h h2 HZ hk hk'
        go_wp2_with fail
        refine (HMf.out _ _ HR1.out.1 HR1.out.2.2.2.2).mono ?_
        rintro e2 w6 ⟨v6, rfl, hR6, hB2⟩
        replace HR1 := hid (And.intro (HR1.out.1.below hB2) (And.intro (HR1.out.2.1.below hB2) (And.intro (HR1.out.2.2.1.below hB2) (And.intro (HR1.out.2.2.2.1.below hB2) (HR1.out.2.2.2.2.below hB2)))))
        replace HB1 := hid (HB1.out.trans (hB2.mono HB1.out.size))
        clear hB2
        go_wp2_with fail
        refine (HSb.out _ _ HR1.out.2.2.2.1 hR6).mono ?_
        rintro e2 w7 ⟨v7, rfl, hR7, hB2⟩
        replace HR1 := hid (And.intro (HR1.out.1.below hB2) (And.intro (HR1.out.2.1.below hB2) (And.intro (HR1.out.2.2.1.below hB2) (And.intro (HR1.out.2.2.2.1.below hB2) (HR1.out.2.2.2.2.below hB2)))))
        replace HB1 := hid (HB1.out.trans (hB2.mono HB1.out.size))
        clear hB2 hR6
        go_wp2_with fail
        refine (HIh.out _ _ _ HR1.out.2.2.2.2 hR7 HR1.out.2.2.1 HR1.out.2.1).mono ?_
        rintro e2 w8 ⟨va, vb, rfl, hRa, hRb, hB2⟩
        replace HR1 := hid (HR1.out.1.below hB2)
        replace HB1 := hid (HB1.out.trans (hB2.mono HB1.out.size))
        have HRab := hid (And.intro hRa hRb)
        clear hB2 hR7 hRa hRb
        go_wp2_with fail
        refine (HMa.out _ _ _ HR1.out HRab.out.1).mono ?_
        rintro e2 w9 ⟨v9, rfl, hR9, hB2⟩
        replace HRab := hid (And.intro (HRab.out.1.below hB2) (HRab.out.2.below hB2))
        replace HB1 := hid (HB1.out.trans (hB2.mono HB1.out.size))
        clear hB2
        go_wp2_with fail
        refine (HAb.out _ _ _ hR9 HRab.out.2).mono ?_
        rintro e2 w10 ⟨v10, rfl, hR10, hB2⟩
        have HF := hid (And.intro hR10 (And.intro (HRab.out.1.below hB2) (HB1.out.trans (hB2.mono HB1.out.size))))
        clear hB2 hR9 hR10
        go_wp2_with fail
        go_ret2
        exact ⟨_, _, rfl, HF.out.1, HF.out.2.1, HF.out.2.2⟩
end Go.Proofs.YtppllgnoniaafaaDoor
