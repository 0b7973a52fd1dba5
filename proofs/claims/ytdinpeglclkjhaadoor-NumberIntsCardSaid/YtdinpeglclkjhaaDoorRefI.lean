/- The rational numbers of the specification: Canonical. -/
import Derived.Test.YtdinpeglclkjhaaDoorRefH
namespace Go.Proofs.YtdinpeglclkjhaaDoor
open Go.RowKit Dg

theorem FRep.arep {w : World} {v : Value} {s : Bool} {n d : Nat} (h : FRep w v s n d) (hn : n < W32 ^ 1000000000) (hd : d < W32 ^ 1000000000) : ARep w v s n d := by
  obtain ⟨vn, vd, hv, h1, h2⟩ := h
  exact ⟨vn, vd, hv, h1.raw hn, h2.raw hd⟩

/-- The triple is canonical. -/
def Canon (s : Bool) (n d : Nat) : Prop := mkq s n (den1 d) = (s, n, den1 d) ∧ d ≠ 1
theorem Canon.sign {s : Bool} {n d : Nat} (h : Canon s n d) : (s && decide (n ≠ 0)) = s := by
  have h1 := h.1
  by_cases h0 : n = 0
  · unfold mkq at h1
    rw [if_pos (.inl h0)] at h1
    injection h1 with h2
    subst h2
    rfl
  · simp [h0]
theorem Canon.den {s : Bool} {n d : Nat} (h : Canon s n d) : den0' (den1 d) = d := by
  have h1 := h.2
  unfold den0' den1
  by_cases h0 : d = 0
  · subst h0; rfl
  · rw [if_neg h0, if_neg (by omega)]

theorem lt_W_B' {x a : Nat} (h : x < W32 ^ a) (ha : a ≤ 400000000) : x < B16 ^ 1000000000 := by
  rw [pow_two_k] at h
  exact lt_16 h (by omega)
theorem lt_W_B {x : Nat} (h : x < W32 ^ 100000000) : x < B16 ^ 1000000000 := lt_W_B' h (by omega)

set_option maxHeartbeats 4000000 in
set_option maxRecDepth 100000 in
theorem Canonical_any (v : Value) (s : Bool) (n d : Nat) (w : World) (h : FRep w v s n d) (hn : n < W32 ^ 100000000) (hd : d < W32 ^ 100000000) (hC : Canon s n d) (hM : MakeOK n (den1 d)) :
    Calls Tryd.prog 23 #[v] w fun e w' => e = .returned (.bool true) ∧ Below w.heap.size w w' := by
  have hA := hid (h.arep (lt_big hn (by omega)) (lt_big hd (by omega)))
  have hF0 := hid h
  obtain ⟨vn, vd, rfl, ⟨p1, k1, c1, rfl, hc1, hl1, hs1⟩, ⟨p2, k2, c2, rfl, hc2, hl2, hs2⟩⟩ := h
  have hb1 := hl1.le W32_pos hn
  have hb2 := hl2.le W32_pos hd
  have HQ := hid (fun (W : World) (hW : ARep W (.agg #[.bool s, .slice p1 k1 c1, .slice p2 k2 c2]) s n d) => rOf_any _ s n d W hW hM)
  have HT : Hid (∀ (W : World) (v' : Value), QNorm W v' (mkq s n (den1 d)) → Calls Tryd.prog 20 #[v'] W fun e w' => ∃ sg pa ka ca pb kb cb, e = .returned (.agg #[.bool sg, .slice pa ka ca, .slice pb kb cb]) ∧ Hid (FNorm w' (.agg #[.bool sg, .slice pa ka ca, .slice pb kb cb]) (s, n, d)) ∧ Below W.heap.size W w') := by
    refine hid fun W v' hv' => fopen (t := (s, n, d)) ?_
    rw [hC.1] at hv'
    have hdB : den1 d < B16 ^ 1000000000 := by
      unfold den1
      split
      · exact lt_16 (a := 1) (by decide) (by omega)
      · exact lt_W_B hd
    have := rRat_any v' s n (den1 d) W hv' (lt_W_B hn) hdB
    rw [hC.sign, hC.den] at this
    exact this
  have Hs := hid (And.intro hs1 hs2)
  have Hl := hid (And.intro hl1 hl2)
  clear hn hd hC hM hs1 hs2 hl1 hl2
  go_enter Tryd.func23, Tryd.ntmps23
  go_upto_region 1 with fail
  have hK0 := (Below.refl w.heap.size w).alloc (Nat.le_refl _) (.cells #[.bool s, .slice p1 k1 c1, .slice p2 k2 c2] 24)
  have hV0 := Var3.alloc w (x := .bool s) (y := .slice p1 k1 c1) (z := .slice p2 k2 c2) 24 trivial trivial trivial
  generalize w.alloc (.cells #[.bool s, .slice p1 k1 c1, .slice p2 k2 c2] 24) = W0 at *
  obtain ⟨x0, x1, x2, _⟩ := id hV0.cells
  have hof := hid (HQ.out W0 (hA.out.below hK0))
  have HV := hid (And.intro hV0 hK0)
  clear hK0 hV0
  go_wp2_with fail
  refine hof.out.mono ?_
  rintro e w1 ⟨v1, rfl, hR1, hB1⟩
  clear hof x0 x1 x2
  go_wp2_with fail
  refine (HT.out w1 v1 hR1).mono ?_
  rintro e w2 ⟨sg, pa, ka, ca, pb, kb, cb, rfl, hF2, hB2⟩
  have hV2 := (HV.out.1.below hB1).below hB2
  have hK2 := HV.out.2.trans ((hB1.mono HV.out.2.size).trans (hB2.mono (Nat.le_trans HV.out.2.size hB1.size)))
  clear hB1 hB2 hR1 HV
  obtain ⟨vn', vd', hv', ⟨pa', ka', ca', rfl, _, hla, hsa⟩, ⟨pb', kb', cb', rfl, _, hlb, hsb⟩⟩ := hF2.out
  simp only [Value.agg.injEq, Array.mk.injEq, List.cons.injEq, Value.bool.injEq, Value.slice.injEq, and_true] at hv'
  obtain ⟨rfl, ⟨rfl, rfl, rfl⟩, ⟨rfl, rfl, rfl⟩⟩ := hv'
  obtain rfl := hla.unique W32_one Hl.out.1
  obtain rfl := hlb.unique W32_one Hl.out.2
  have hal := (Below.refl w2.heap.size w2).alloc (Nat.le_refl _) (.cells #[.bool sg, .slice pa ka ca, .slice pb kb cb] 24)
  have hVX := Var3.alloc w2 (x := .bool sg) (y := .slice pa ka ca) (z := .slice pb kb cb) 24 trivial trivial trivial
  have HP := hid (And.intro (And.intro ((Hs.out.1.below hK2).below hal) ((Hs.out.2.below hK2).below hal)) (And.intro (And.intro (hsa.below hal) (hsb.below hal)) (hK2.trans (hal.mono hK2.size))))
  have hV3 := hV2.below hal
  clear hV2 hK2 hF2 hla hsa hlb hsb Hs Hl hA hF0 HQ HT hal
  go_upto_region 2 with fail
  generalize w2.alloc (.cells #[.bool sg, .slice pa ka ca, .slice pb kb cb] 24) = W3 at *
  generalize w2.heap.size = X at *
  obtain ⟨x0, x1, x2, _⟩ := id hV3.cells
  obtain ⟨y0, y1, y2, _⟩ := id hVX.cells
  have hbs : (sg != sg) = false := by cases sg <;> rfl
  have hba : ((ka : Int) != (ka : Int)) = false := by simp
  have hbb : ((kb : Int) != (kb : Int)) = false := by simp
  go_wp2_with fail
  go_loopw [35] (fun i wr => ∃ k q : Nat, k ≤ ka ∧ i = .int .i64 k ∧ wr = W3.drewN q) (fun i _ => ka - (intOf i).toNat)
  case atStart => exact ⟨0, 0, by omega, rfl, rfl⟩
  case round =>
    obtain ⟨k, q, hk, rfl, rfl⟩ := hrel
    by_cases hlt : k < ka
    · obtain ⟨b1, o1, rfl, hca⟩ := HP.out.1.1 (by omega)
      obtain ⟨b2, o2, rfl, hcb⟩ := HP.out.2.1.1 (by omega)
      have hc1' := hca k hlt
      have hc2' := hcb k hlt
      clear hca hcb
      generalize dg W32 n k = dd at *
      have hdd : ((dd : Int) != (dd : Int)) = false := by simp
      go_wp2_with fail
      go_quiet (fail)
      go_wp2_with fail
      go_roundw
      case rel => exact ⟨k + 1, _, by omega, by go_num, by first | rfl | rw [World.drewN_drewN]⟩
      case measure => simp [intOf]; omega
    · have hk' : k = ka := by omega
      subst hk'
      go_wp2_with fail
      go_loopw [53] (fun i wr => ∃ j q : Nat, j ≤ kb ∧ i = .int .i64 j ∧ wr = W3.drewN q) (fun i _ => kb - (intOf i).toNat)
      case atStart => exact ⟨0, q, by omega, rfl, rfl⟩
      case round =>
        obtain ⟨j, q', hj, rfl, rfl⟩ := hrel
        by_cases hlt2 : j < kb
        · obtain ⟨b1, o1, rfl, hca⟩ := HP.out.1.2 (by omega)
          obtain ⟨b2, o2, rfl, hcb⟩ := HP.out.2.1.2 (by omega)
          have hc1' := hca j hlt2
          have hc2' := hcb j hlt2
          clear hca hcb
          generalize dg W32 d j = dd at *
          have hdd : ((dd : Int) != (dd : Int)) = false := by simp
          go_wp2_with fail
          go_quiet (fail)
          go_wp2_with fail
          go_roundw
          case rel => exact ⟨j + 1, _, by omega, by go_num, by first | rfl | rw [World.drewN_drewN]⟩
          case measure => simp [intOf]; omega
        · have hj' : j = kb := by omega
          subst hj'
          go_wp2_with fail
          go_ret
          exact ⟨rfl, below_drewN HP.out.2.2 _⟩
end Go.Proofs.YtdinpeglclkjhaaDoor
